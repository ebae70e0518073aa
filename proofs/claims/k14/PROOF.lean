import PyProof.Rows.All
import Wide.All
import OpenK.AllK
import Wide.FinOn
import Lean
import PyProof.EqAt
import PyProof.EqKinds
import PyProof.TupleCall
import KE.KSortTup
import KE.KUnpack
import PyProof.ExcBaseAll.ValueError
import KE.KTryMore
import PyProof.Rows.Catch
import PyProof.NsDelKeeps
import KE.KIsAll
import PyProof.ExcArgsOwn
import PyProof.InstStore
import PyProof.DictRoadsH
import PyProof.EnumFor
import PyProof.EnumStmt
import PyProof.EnumMake
import PyProof.MaxThree
import KE.KDictList
import PyProof.NeKinds
import KE.KxText
import PyProof.WalkInts
import PyProof.SeqI3
import KE.KIntText
import KE.KRevIter
import PyProof.DictIter
import PyProof.DictWalks
import PyProof.TupleOfSeq
import PyProof.Rows.Range3
import PyProof.Calls
import PySem.Challenge.RW_dueyard_k14_whole_cells
abbrev VP:=PySem.Value->PySem.Shared->Prop
abbrev AL:=List (PySem.Addr×PySem.Obj)
abbrev AO:=List (Option PySem.Addr)
abbrev FG:=PySem.W.Frag
set_option linter.all false
def Aa:=@if_pos
def Ab:=@PySem.wpAny_bind
def Ac:=@if_neg
def Ad:=@PySem.wpAny_pure
def Ae:=@List.mem_cons
def Af:=@PySem.Heap.lt_size
def Ag:=@Nat.le_refl
def Ah:=@List.length_map
def Ai:=@PySem.W.mg_of
def Aj:=@List.mem_cons_self
def Ak:=@List.size_toArray
def Al:=@List.map_cons
def Am:=@List.mem_cons_of_mem
def An:=@List.getElem?_eq_some_iff
def Ao:=@PySem.Heap.get?_push_of_some
def Ap:=@List.mem_of_getElem?
def Aq:=@Nat.ne_of_lt
def Ar:=@Bool.and_eq_true
def As:=@List.mem_singleton
def Au:=@beq_iff_eq
def Av:=@List.length_append
def Aw:=@List.mem_append
def Ax:=@List.map_append
def Ay:=@Nat.lt_of_lt_of_le
def Az:=@List.length_cons
def A4:=@List.map_nil
def A5:=@Ne.symm
def A6:=@PySem.Heap.get?_push_size
def A7:=@Bool.false_ne_true
def A8:=@List.getElem?_append_left
def A9:=@List.getElem?_map
def Bb:=@or_false
def Bc:=@List.length_take
def Be:=@decide_eq_false
def Bf:=@List.length_set
def Bg:=@List.not_mem_nil
def Bh:=@Option.map_some
def Bi:=@Nat.le_trans
def Bj:=@PySem.wpAny_mono
def Bk:=@decide_eq_true
def Bl:=@PySem.W.mg_none_of
def Bm:=@Array.getElem?_toList
def Bn:=@Nat.lt_irrefl
def Bo:=@List.getElem?_append_right
def Bp:=@List.lookup_cons
def Bq:=@decide_eq_true_eq
def Br:=@List.mem_append_right
def Bt:=@List.append_nil
def Bu:=@List.nodup_cons
def Bv:=@List.mem_range
def Bw:=@Nat.zero_le
def Bx:=@if_false
def By:=@if_true
def Bz:=@List.getElem?_of_mem
def B0:=@Option.some.injEq
def B1:=@Array.getElem?_eq_getElem
def B2:=@List.pairwise_cons
def B3:=@List.mem_map
def B4:=@PySem.Heap.size_push
def B5:=@PySem.W.kia_one
def B6:=@PySem.wpAny_newObj_type
def B7:=@PySem.wpAny_loadPart_at
def B8:=@List.mem_of_mem_take
def B9:=@List.length_range
def Ca:=@List.map_map
def Cb:=@PySem.wpAny_truthy_bool
def Cc:=@Array.length_toList
def Cd:=@PySem.wpAny_holding
def Ce:=@List.getElem?_set
def Cf:=@List.drop_length
def Cg:=@PySem.boot_len
def Ci:=@Nat.ne_of_gt
def Cj:=@PySem.mem_of_lookup
def Ck:=@List.getElem?_take_of_lt
def Cm:=@PySem.Heap.get?_update_other
def Cn:=@List.nil_append
def Co:=@Bool.eq_iff_iff
def Cp:=@Nat.lt_or_ge
def Cq:=@Int.le_refl
def Cr:=@PySem.wpAny_setState_of
def Cs:=@Int.toNat_natCast
def Ct:=@PyProof.Rows.boot_isinstance
def Cu:=@List.mem_append_left
def Cv:=@Bool.false_and
def Cw:=@PySem.codeAny_mono
def Cy:=@PySem.wpAny_Call_Name_kw
def Cz:=@PySem.wpAny_field
def C1:=@PySem.Heap.get?_update_self
def C2:=@List.any_eq_true
def C4:=@Array.getElem?_eq_some_iff
def C5:=@PySem.F.called_set
def C6:=@List.getD_eq_getElem?_getD
def C7:=@List.mem_filter
def C8:=@Nat.le_of_lt
def C9:=@PySem.sizeLine_eq
def Da:=@Nat.lt_succ_self
def Dc:=@PySem.wpAny_call
def Dd:=@List.length_replicate
def De:=@List.replicate_succ
def Df:=@List.getElem_mem
def Dg:=@PySem.strLen_append
def Dh:=@Prod.mk.injEq
def Di:=@PySem.F.slot_list_append
def Dj:=@PySem.F.type_list_append
def Dk:=@Bool.true_and
def Dl:=@List.getLast_mem
def Dm:=@PySem.W.hideAll_none
def Dn:=@PySem.wpAny_pyIter_list
def Do:=@PyProof.Rows.callWith_type1
def Dp:=@PySem.W.looks_findIn
def Dq:=@Nat.le_succ
def Dr:=@PySem.wpAny_call_entry
def Ds:=@Bool.or_false
def Dt:=@List.flatten_cons
def Du:=@PySem.call_meets
def Dv:=@List.length_singleton
def Dw:=@Bool.false_eq_true
def Dx:=@List.length_nil
def Dy:=@List.eq_nil_of_length_eq_zero
def Dz:=@List.pairwise_append
def D0:=@List.nodup_append
def D1:=@PySem.codeAny_builtin
def D2:=@PySem.wpAny_setField_rec
def D4:=@PyProof.Rows.boot_list
def D5:=@PyProof.Rows.boot_max
def D6:=@List.concat_eq_append
def D7:=@beq_eq_false_iff_ne
def D8:=@List.getElem?_set_ne
def D9:=@PySem.wpAny_standAt
def Ea:=@List.mem_filterMap
def Eb:=@PySem.wpAny_passesOwn
def Ec:=@PySem.W.callWith_K
def Ed:=@List.append_assoc
def Ee:=@Nat.lt_succ_of_lt
def Ef:=@Bool.false_or
def Eg:=@List.getElem?_eq_none
def Eh:=@List.nodup_nil
def Ei:=@Option.map_eq_some_iff
def Ej:=@PySem.Around.under_plainId
def Ek:=@PySem.plainId_quiet
def El:=@List.drop_zero
def Em:=@List.eq_nil_or_concat
def En:=@List.filter_cons_of_neg
def Eo:=@List.length_filter_le
def Ep:=@PySem.W.of_hideAll
def Er:=@List.filterMap_cons
def Es:=@List.getElem?_set_self
def Et:=@List.length_drop
def Eu:=@List.foldl_cons
def Ew:=@Bool.and_false
def Ex:=@beq_self_eq_true
def Ey:=@List.all_eq_true
def Ez:=@List.take_add_one
def E5:=@List.take_length
def E6:=@PySem.wpAny_setField
def E7:=@PySem.F.excBase_ValueError
def E8:=@PySem.codeAny_call_builtin
def E9:=@List.drop_eq_getElem_cons
def Fb:=@Classical.byContradiction
def Fc:=@List.getElem?_cons_zero
def Fd:=@Option.bind_some
def Fe:=@List.getElem?_cons_succ
def Ff:=@PySem.wpAny_askSetting
def Fg:=@List.cons_append
def Fh:=@List.filter_cons_of_pos
def Fi:=@PySem.Heap.get?_none_of_le
def Fj:=@List.getElem?_replicate
def Fl:=@PySem.wpAny_callSpecial?_slot
def Fo:=@PyProof.Rows.slot_tuple_getitem
def Fp:=@PySem.Calls.callWith_builtin
def Fq:=@PySem.Calls.evalArgs_plain
def Fs:=@Array.getElem?_eq_none_iff
def Ft:=@PySem.W.funFrames_hide
def Fu:=@PyProof.Rows.F.plain_set_update_loop
def Fv:=@PySem.builtinLookup_eq_fast
def Fw:=@Array.getElem?_eq_none
def Fx:=@PyProof.Rows.boot_str
def Fy:=@List.mem_of_mem_head?
def Fz:=@List.dropLast_concat
def Ga:=@List.filter_eq_nil_iff
def Gb:=@List.take_append_drop
def Gc:=@PyProof.Rows.F.entry_set_update_loop
universe u
noncomputable section
def zH {α:Type u} {l:List α} {i:Nat} (h:i<l.length):l[i]?=some l[i]:=List.getElem?_eq_getElem h
def zd {a b:Prop} (h:a) (k:b):a/\b:=⟨h,k⟩
set_option Elab.async false
set_option compiler.extract_closed false
set_option bootstrap.genMatcherCode false
set_option genSizeOfSpec false
set_option genSizeOf false
local macro_rules | `(tactic|lia)=>`(tactic|first|assumption|lia (splits:=9)|omega)
set_option linter.all false
set_option maxRecDepth 100000
namespace L2
open PySem PySem.Spec PyProof.Rows
abbrev yC:=Sum Int Str
def J9:yC->Value->Bool
 |.inl k,v=>Value.isInt k v
 |.inr x,v=>Value.isStrOf x v
def keyH (w:World):yC->Int
 |.inl k=>hashInt k
 |.inr x=>hashStr w x
def AJ:∀{k:yC} {v:Value},J9 k v=true->(∃i t,k=Sum.inl i/\v=Value.int i t)\/(∃x t,k=Sum.inr x/\v=Value.str x t)
 |.inl i,v,h=>by
  obtain⟨t,e⟩:=Value.isInt_shape (k:=i) (v:=v) h;exact .inl ⟨i,t,rfl,e⟩
 |.inr x,v,h=>by
  obtain⟨t,e⟩:=Value.isStrOf_shape (x:=x) (v:=v) h;exact .inr ⟨x,t,rfl,e⟩
def Na (a b:Int):decide ((Sum.inl a:yC)=Sum.inl b)=(a==b):=by
 by_cases e:a=b
 .subst e;simp
 .have h: ¬(Sum.inl a:yC)=Sum.inl b:=fun q=>e (Sum.inl.inj q)
  rw[Be h];exact (D7.mpr e).symm
def Nb (a b:Str):decide ((Sum.inr a:yC)=Sum.inr b)=decide (a=b):=by
 by_cases e:a=b
 .subst e;simp
 .have h: ¬(Sum.inr a:yC)=Sum.inr b:=fun q=>e (Sum.inr.inj q)
  rw[Be h,Be e]
def Nc (a:Int) (b:Str):decide ((Sum.inl a:yC)=Sum.inr b)=false:=Be (fun q=>nomatch q)
def Nd (a:Str) (b:Int):decide ((Sum.inr a:yC)=Sum.inl b)=false:=Be (fun q=>nomatch q)
def Gr (prog:Program) (w:World):PySem.KeyKind prog w yC where
 is:=J9
 hash:=keyH w
 inj:=fun v a b ha hb=>by
  rcases AJ ha with ⟨i,t,rfl,rfl⟩|⟨x,t,rfl,rfl⟩
  .rcases AJ hb with ⟨j,u,rfl,e⟩|⟨y,u,rfl,e⟩
   .injection e with e1 _;rw[e1]
   .exact nomatch e
  .rcases AJ hb with ⟨j,u,rfl,e⟩|⟨y,u,rfl,e⟩
   .exact nomatch e
   .injection e with e1 _;rw[e1]
 byValue:=fun k v h=>by
  rcases AJ h with ⟨i,t,rfl,rfl⟩|⟨x,t,rfl,rfl⟩<;>rfl
 pyHash:=fun hv h=>by
  rcases AJ hv with ⟨i,t,rfl,rfl⟩|⟨x,t,rfl,rfl⟩
  .exact wpAny_pyHash_int h
  .exact wpAny_pyHash_str h
 eqBool:=fun hu hv h=>by
  rcases AJ hu with ⟨i,t,rfl,rfl⟩|⟨x,t,rfl,rfl⟩
  .rcases AJ hv with ⟨j,u,rfl,rfl⟩|⟨y,u,rfl,rfl⟩
   .rw[Na]at h;exact wpAny_eqBool_int h
   .rw[Nc]at h;exact SeqAt.EqAt.int_str i t y u _ _ _ _ h
  .rcases AJ hv with ⟨j,u,rfl,rfl⟩|⟨y,u,rfl,rfl⟩
   .rw[Nd]at h;exact SeqAt.EqAt.str_int x t j u _ _ _ _ h
   .rw[Nb]at h;exact wpAny_eqBool_str h
 «strs» :=fun k x t v h=>by
  rcases AJ h with ⟨i,u,rfl,e⟩|⟨y,u,rfl,e⟩
  .exact nomatch e
  .injection e with e1 _
   subst e1;cases v<;>rfl
inductive V where
 |non|bl (b:Bool)|int (i:Int)|str (x:Str)|byt (b:Array UInt8)|flt (b:UInt64)|ref (a:Addr)|ty (n:String)
 deriving DecidableEq
def RelV:V->Value->Prop
 |.non,u=>u=Value.none
 |.bl b,u=>u=Value.bool b
 |.int i,u=> ∃t,u=Value.int i t
 |.str x,u=> ∃t,u=Value.str x t
 |.byt b,u=> ∃t,u=Value.bytes b t
 |.flt b,u=> ∃t,u=Value.float b t
 |.ref a,u=>u=Value.ref a
 |.ty n,u=>u=Value.type n
abbrev Vals:List V->List Value->Prop:=Paired RelV
theorem Vals.length {xs:List V} {us:List Value} (r:Vals xs us):xs.length=us.length:=Paired.length r
theorem Vals.get:∀{xs:List V} {us:List Value} {i:Nat} {x:V},Vals xs us->xs[i]? =some x->∃u,us[i]? =some u/\RelV x u
 |_,_,_,_,.nil,e=>by simp at e
 |_,_,0,_,.cons r _,e=>by simp at e;subst e;exact⟨_,rfl,r⟩
 |_,_,i+1,x,.cons _ t,e=>by
  obtain⟨u,h1,h2⟩:=Vals.get (i:=i) (x:=x) t (by simpa using e)
  exact⟨u,by simpa using h1,h2⟩
theorem Vals.set {x:V} {u:Value} (r:RelV x u):∀{xs:List V} {us:List Value} (i:Nat),Vals xs us->Vals (xs.set i x) (us.set i u)
 |_,_,_,.nil=>.nil
 |_,_,0,.cons _ t=>.cons r t
 |_,_,i+1,.cons q t=>.cons q (Vals.set r i t)
theorem Vals.append:∀{xs ys:List V} {us ws:List Value},Vals xs us->Vals ys ws->Vals (xs++ys) (us++ws)
 |_,_,_,_,.nil,s=>s
 |_,_,_,_,.cons r t,s=>.cons r (Vals.append t s)
theorem Vals.take:∀{xs:List V} {us:List Value} (n:Nat),Vals xs us->Vals (xs.take n) (us.take n)
 |_,_,0,_=>.nil
 |_,_,_+1,.nil=>.nil
 |_,_,n+1,.cons r t=>.cons r (Vals.take n t)
theorem Vals.drop:∀{xs:List V} {us:List Value} (n:Nat),Vals xs us->Vals (xs.drop n) (us.drop n)
 |_,_,0,r=>r
 |_,_,_+1,.nil=>.nil
 |_,_,n+1,.cons _ t=>Vals.drop n t
def RelO:Option V->Option Value->Prop
 |some v,some u=>RelV v u
 |none,none=>True
 |_,_=>False
def KV {κ:Type}:List (κ×V)->List (κ×Value)->Prop:=Paired fun (p:κ×V) (q:κ×Value)=>p.1=q.1/\RelV p.2 q.2
def kV:yC->V
 |.inl i=>.int i
 |.inr x=>.str x
inductive MK where
 |one (k:yC)
 |tup (ks:List yC)
 deriving DecidableEq
def MK.hash (P:Program) (w:World):MK->Int
 |.one k=>(Gr P w).hash k
 |.tup ks=>tupleKeyHash (Gr P w) ks
def entM (P:Program) (w:World) (x:MK×Value×Value):DictEntry:=⟨x.1.hash P w,x.2.1,x.2.2⟩
inductive HO where
 |lst (xs:List V)
 |tup (xs:List V)
 |dK (kvs:List (yC×V))|dT (kvs:List (MK×V))
 |set (S:Int->Bool) (n:Nat)
 |ins (C dx:Addr) (fs:List (Str×V))
 |own (x:Addr)
 |xd (fs:List (Str×V))
 |met (f x:Addr)
 |rng (lo hi:Int)
 |frz (o:Obj) (u:HO)
 |tbl (ps:Array Value)
 |ext (φ:Heap->Prop)
abbrev Hp:=Addr->Option HO
def KyV (H:Hp):MK->Value->Prop
 |.one k,u=>RelV (kV k) u
 |.tup ks,u=> ∃b,u=.ref b/\H b=some (.tup (ks.map kV))
def KyV.mono {H H':Hp} (ht:∀b xs,H b=some (.tup xs)->H' b=some (.tup xs)):∀{k:MK} {u:Value},KyV H k u->KyV H' k u
 |.one _,_,h=>h
 |.tup _,_,⟨b,e,q⟩=>⟨b,e,ht _ _ q⟩
def zi (H:Hp) (a:Addr) (o:HO):Hp:=fun b=>if b=a then some o else H b
def z6 {H:Hp} {a:Addr} {o:HO}:zi H a o a=some o:=by unfold zi;rw[Aa rfl]
def zy {H:Hp} {a b:Addr} {o:HO} (h:b≠a):zi H a o b=H b:=by unfold zi;rw[Ac h]
def JA {H:Hp} {a:Addr} {o u:HO}:zi (zi H a o) a u=zi H a u:=by
 funext b;unfold zi;split<;>rfl
def yw {H:Hp} {a b:Addr} {o:HO} (h:H a=some o) (h':H b=none):a≠b:=by
 intro e;subst e;rw[h]at h';cases h'
section
variable (P:Program) (w:World)
def ObjOk (H:Hp) (h:Heap) (a:Addr):HO->Prop
 |.lst xs=>xs.length<=sizeLine/\∃(its:List Value) (n:Nat),Vals xs its/\h.get? a=some {cls:= .type "list",data:= .seq its.toArray n}
 |.tup xs=>xs.length<=sizeLine/\∃its:List Value,Vals xs its/\IsTup h a its.toArray
 |.dK kvs=>kvs.length<=sizeLine/\(a==sysModules)=false/\∃vs,KV kvs vs/\h.DictOf (Gr P w) a vs
 |.dT kvs=>kvs.length<=sizeLine/\(a==sysModules)=false/\∃xs:List (MK×Value×Value),Paired (fun (p:MK×V) (q:MK×Value×Value)=>p.1=q.1/\KyV H p.1 q.2.1/\RelV p.2 q.2.2) kvs xs/\
  ∃o es ep,h.get? a=some o/\o.ExactDict/\o.data=.dict es ep/\es.toList=xs.map (entM P w)/\(xs.map (·.1)).Nodup/\ep=xs.length
 |.set S n=>h.SetOf (intKind P w) a S n
 |.ins C dx fs=>H dx=some (.own a)/\fs.length<=1000/\dx≠a/\h.get? a=some (PySem.W.instObj C dx)/\
  ∃mA,h.Ns1 dx mA/\(∀f,RelO (fs.lookup f) (mA f))/\PySem.Within mA (fs.map (·.1))
 |.own _=> ∃o,h.get? a=some o
 |.xd fs=> ∃mA,h.Ns1 a mA/\∀f,RelO (fs.lookup f) (mA f)
 |.rng lo hi=> ∃t u v,h.get? a=some {cls:= .type "range",data:= .fields #[.int lo t,.int hi u,.int 1 v]}
 |.frz o u=>h.get? a=some o/\ObjOk H h a u
 |.tbl ps=>h.get? a=some {cls:= .none,data:= .fields ps}
 |.met f x=>h.get? a=some (PySem.W.methodObj (.ref f) (.ref x))
 |.ext φ=>φ h/\(∃o,h.get? a=some o)/\∀h1 h2:Heap,φ h1->(∀o,h1.get? a=some o->h2.get? a=some o)->φ h2
def HOk (H:Hp) (h:Heap):Prop:=∀a o,H a=some o->ObjOk P w H h a o
end
section
variable {P:Program} {w:World} {H H':Hp} {h h':Heap} {a:Addr} {o:HO}
theorem ObjOk.lt (x:ObjOk P w H h a o):a<h.objs.size:=by
 cases o with
 |lst xs=>obtain⟨_,_,_,_,e⟩:=x;exact Af e
 |tup xs=>obtain⟨_,_,_,p⟩:=x;exact p.lt
 |dK kvs=>obtain⟨_,_,_,_,o,_,_,e,_⟩:=x;exact Af e
 |dT kvs=>obtain⟨_,_,_,_,o,_,_,e,_⟩:=x;exact Af e
 |set S n=>obtain⟨o,_,_,_,e,_⟩:=x;exact Af e
 |ins C dx fs=>obtain⟨_,_,_,e,_⟩:=x;exact Af e
 |own y=>obtain⟨_,e⟩:=x;exact Af e
 |xd fs=>obtain⟨_,⟨_,_,_,e,_⟩,_⟩:=x;exact Af e
 |rng lo hi=>obtain⟨_,_,_,e⟩:=x;exact Af e
 |frz ob u=>obtain⟨e,_⟩:=x;exact Af e
 |tbl ps=>exact Af (show h.get? a=some _ from x)
 |met f y=>exact Af (show h.get? a=some _ from x)
 |ext φ=>obtain⟨_,⟨_,e⟩,_⟩:=x;exact Af e
theorem Paired.mapP {α β:Type} {F G:α->β->Prop}:∀{l₁:List α} {l₂:List β},Paired F l₁ l₂->(∀a b,F a b->G a b)->Paired G l₁ l₂
 |_,_,.nil,_=>.nil
 |_,_,.cons r t,f=>.cons (f _ _ r) (Paired.mapP t f)
def ObjOk.stay (x:ObjOk P w H h a o) (k:∀b u,(b=a\/H b=some (.own a))->h.get? b=some u->h'.get? b=some u)
  (ho:∀b,H b=some (.own a)->H' b=some (.own a)) (ht:∀b xs,H b=some (.tup xs)->H' b=some (.tup xs)):ObjOk P w H' h' a o:=by
 induction o with
 |lst xs=>obtain⟨z,its,n,r,e⟩:=x;exact⟨z,its,n,r,k _ _ (.inl rfl) e⟩
 |tup xs=>obtain⟨z,its,r,ob,e,c⟩:=x;exact⟨z,its,r,ob,k _ _ (.inl rfl) e,c⟩
 |dK kvs=>obtain⟨z,y,vs,r,ob,es,ep,e,c⟩:=x;exact⟨z,y,vs,r,ob,es,ep,k _ _ (.inl rfl) e,c⟩
 |dT kvs=>
  obtain⟨z,y,xs,r,ob,es,ep,e,c⟩:=x;exact⟨z,y,xs,Paired.mapP r fun p q z=>⟨z.1,z.2.1.mono ht,z.2.2⟩,ob,es,ep,k _ _ (.inl rfl) e,c⟩
 |set S n=>obtain⟨ob,es,ep,t,e,c⟩:=x;exact⟨ob,es,ep,t,k _ _ (.inl rfl) e,c⟩
 |ins C dx fs=>
  obtain⟨d,z,ne,e,mA,⟨od,es,ep,e2,c⟩,r⟩:=x;exact⟨ho _ d,z,ne,k _ _ (.inl rfl) e,mA,⟨od,es,ep,k _ _ (.inr d) e2,c⟩,r⟩
 |own y=>obtain⟨ob,e⟩:=x;exact⟨ob,k _ _ (.inl rfl) e⟩
 |xd fs=>obtain⟨mA,⟨od,es,ep,e,c⟩,r⟩:=x;exact⟨mA,⟨od,es,ep,k _ _ (.inl rfl) e,c⟩,r⟩
 |rng lo hi=>obtain⟨t,u,v,e⟩:=x;exact⟨t,u,v,k _ _ (.inl rfl) e⟩
 |frz ob u ih=>obtain⟨e,q⟩:=x;exact⟨k _ _ (.inl rfl) e,ih q⟩
 |tbl ps=>
  have e:h.get? a=some {cls:= .none,data:= .fields ps}:=x;show h'.get? a=some {cls:= .none,data:= .fields ps};exact k a _ (.inl rfl) e
 |met f y=>
  have e:h.get? a=some (PySem.W.methodObj (.ref f) (.ref y)):=x;show h'.get? a=some (PySem.W.methodObj (.ref f) (.ref y));exact k a _ (.inl rfl) e
 |ext φ=>obtain⟨p,⟨o,e⟩,st⟩:=x;exact⟨st _ _ p fun o q=>k _ _ (.inl rfl) q,⟨o,k _ _ (.inl rfl) e⟩,st⟩
theorem HOk.lt (x:HOk P w H h) (e:H a=some o):a<h.objs.size:=(x a o e).lt
def HOk.fresh (x:HOk P w H h) (e:h.objs.size<=a):H a=none:=by
 cases q:H a with
 |none=>rfl
 |some u=>exact absurd (Ay (x.lt q) e) (Bn _)
def HOk.kept (x:HOk P w H h) (k:∀b u,h.get? b=some u->h'.get? b=some u):HOk P w H h':=fun a o e=>
 (x a o e).stay (fun b u _ q=>k b u q) (fun _ q=>q) fun _ _ q=>q
def HOk.laid (x:HOk P w H h) (k:∀b u,h.get? b=some u->h'.get? b=some u) (hp:h.objs.size<=a) (new:ObjOk P w (zi H a o) h' a o):HOk P w (zi H a o) h':=fun b u e=>by
 have hn:=x.fresh hp
 by_cases hb:b=a
 .subst hb;rw[z6]at e;cases e;exact new
 .rw[zy hb]at e
  exact (x b u e).stay (fun c v _ q=>k c v q) (fun c q=>by rw[zy (yw q hn)];exact q) fun c xs q=>by rw[zy (yw q hn)];exact q
end
def Rd (H:Hp) (a:Addr) (u:HO):Prop:=H a=some u\/∃o,H a=some (.frz o u)
def Rd.ok {P:Program} {w:World} {H:Hp} {h:Heap} {a:Addr} {u:HO} (r:Rd H a u) (x:HOk P w H h):ObjOk P w H h a u:=by
 rcases r with r|⟨o,r⟩
 .exact x a u r
 .obtain⟨_,q⟩:=x a _ r
  exact q
def Mut:Option HO->Prop
 |some (.lst _)=>True
 |some (.dK _)=>True
 |some (.dT _)=>True
 |some (.set _ _)=>True
 |some (.ins _ _ _)=>True
 |some (.ext _)=>True
 |_=>False
section
variable {P:Program} {w:World} {H:Hp} {h h':Heap} {x e:Addr} {o':HO}
def HOk.write (ok:HOk P w H h) (mu:Mut (H x)) (he:e=x\/H e=some (.own x)) (k:∀b u,b≠e->h.get? b=some u->h'.get? b=some u) (heo:∃u,h'.get? e=some u)
  (new:ObjOk P w (zi H x o') h' x o'):HOk P w (zi H x o') h':=fun b u q=>by
 have nown:∀c y,H c=some (.own y)->c≠x:=fun c y r z=>by subst z;rw[r]at mu;exact mu
 have ntup:∀c xs,H c=some (.tup xs)->c≠x:=fun c xs r z=>by subst z;rw[r]at mu;exact mu
 by_cases hb:b=x
 .subst hb;rw[z6]at q;cases q;exact new
 .rw[zy hb]at q
  by_cases hbe:b=e
  .have q':H b=some (.own x):=by
    rcases he with z|z
    .exact absurd (hbe.trans z) hb
    .rw[hbe];exact z
   rw[q]at q';cases q';obtain⟨v,hv⟩:=heo;exact⟨v,by rw[hbe];exact hv⟩
  .refine (ok b u q).stay (fun c v hc r=>k c v ?_ r) (fun c r=>by rw[zy (nown c b r)];exact r) fun c xs r=>by rw[zy (ntup c xs r)];exact r
   rcases hc with rfl|hc
   .exact hbe
   .rintro rfl
    rcases he with z|z
    .exact nown c b hc z
    .rw[hc]at z;cases z;exact hb rfl
end
structure Un (fs ex:List Addr) (H H':Hp) (h h':Heap):Prop where
 keep:∀b o,h.get? b=some o->H b=none->b∉fs->b∉ex->h'.get? b=some o
 slot:∀b o,h.get? b=some o->H b=none->b∈fs->b∉ex->∃sl,h'.get? b=some {o with slots:=sl}
 free:∀b o,h.get? b=some o->H b=none->b∉ex->H' b=none
 there:∀b o,h.get? b=some o->b∉ex->∃o',h'.get? b=some o'
 tups:∀b xs,H b=some (.tup xs)->H' b=some (.tup xs)
 frzs:∀b o u,H b=some (.frz o u)->H' b=some (.frz o u)
 tbls:∀b ps,H b=some (.tbl ps)->∃more,H' b=some (.tbl (ps++more))
section
variable {fs fs' ex ex':List Addr} {H H1 H2:Hp} {h h1 h2 h':Heap} {a x e:Addr} {o:HO}
def Un.any (u:Un fs ex H H1 h h1) {b:Addr} {ob:Obj} (q:h.get? b=some ob) (n:H b=none) (hx:b∉ex):∃sl,h1.get? b=some {ob with slots:=sl}:=by
 by_cases hb:b∈fs
 .exact u.slot b ob q n hb hx
 .exact⟨ob.slots,u.keep b ob q n hb hx⟩
def Un.kept (k:∀b u,h.get? b=some u->h'.get? b=some u):Un fs ex H H h h':=
 ⟨fun b ob q _ _ _=>k b ob q,fun b ob q _ _ _=>⟨ob.slots,k b ob q⟩,fun _ _ _ n _=>n,fun b ob q _=>⟨ob,k b ob q⟩,fun _ _ q=>q,fun _ _ _ q=>q,fun _ ps q=>⟨#[],by rw[q];simp⟩⟩
def Un.refl:Un fs ex H H h h:=Un.kept fun _ _ q=>q
def Un.laid (k:∀b u,h.get? b=some u->h'.get? b=some u) (hp:h.objs.size<=a) (hn:H a=none):Un fs ex H (zi H a o) h h' where
 keep:=fun b u q _ _ _=>k b u q
 slot:=fun b u q _ _ _=>⟨u.slots,k b u q⟩
 free:=fun b u q n _=>by rw[zy (Aq (Ay (Af q) hp))];exact n
 there:=fun b u q _=>⟨u,k b u q⟩
 tups:=fun b xs q=>by rw[zy (yw q hn)];exact q
 frzs:=fun b u xs q=>by rw[zy (yw q hn)];exact q
 tbls:=fun b ps q=>⟨#[],by rw[zy (yw q hn),q];simp⟩
def Un.write (mu:Mut (H x)) (he:e=x\/H e=some (.own x)) (k:∀b u,b≠e->h.get? b=some u->h'.get? b=some u) (heo:∃u,h'.get? e=some u):Un fs ex H (zi H x o) h h':=by
 have hx:∀b,H b=none->b≠x:=fun b n z=>by subst z;rw[n]at mu;exact mu
 have hb:∀b,H b=none->b≠e:=fun b n z=>by
  subst z
  rcases he with r|r
  .exact hx b n r
  .rw[n]at r;cases r
 have hm:∀b u,H b=some u->¬Mut (some u)->b≠x:=fun b u q nm z=>by subst z;rw[q]at mu;exact nm mu
 refine⟨fun b u q n _ _=>k b u (hb b n) q,fun b u q n _ _=>⟨u.slots,k b u (hb b n) q⟩,fun b u q n _=>by rw[zy (hx b n)];exact n,fun b u q _=>?_,
  fun b xs q=>by rw[zy (hm b _ q fun z=>z)];exact q,fun b u xs q=>by rw[zy (hm b _ q fun z=>z)];exact q,fun b ps q=>⟨#[],by rw[zy (hm b _ q fun z=>z),q];simp⟩⟩
 by_cases hbe:b=e
 .subst hbe;exact heo
 .exact⟨u,k b u hbe q⟩
end
def trk (h:Heap) (H:Hp):List Addr:=(List.range h.objs.size).filter fun a=>(H a).isSome
def hidT (h:Heap) (H:Hp):Heap:=PySem.W.hideAll h (trk h H)
def Nf (h:Heap) (H:Hp):(hidT h H).objs.size=h.objs.size:=PySem.W.hideAll_size _ _
def Ng {h:Heap} {H:Hp} {b:Addr} {o:Obj} (e:h.get? b=some o) (n:H b=none):(hidT h H).get? b=some o:=
 PySem.W.hideAll_get _ e fun hm=>by
  have q:(H b).isSome=true:=(C7.mp hm).2;rw[n]at q;simp at q
def Nh {h:Heap} {H:Hp} {b:Addr} {o:Obj} (e:(hidT h H).get? b=some o):h.get? b=some o/\H b=none:=by
 have e':h.get? b=some o:=Ep (trk h H) e
 refine⟨e',?_⟩
 cases q:H b with
 |none=>rfl
 |some x=>
  have hm:b∈trk h H:=C7.mpr ⟨Bv.mpr (Af e'),by simp[q]⟩
  have z:(hidT h H).get? b=none:=Dm (trk h H) hm;rw[z]at e;cases e
structure Mod (K:FG) (mg:Str->Option Value) (base:Heap):Prop where
 kin:K.In base
 glob:base.Ns mainGlobals mg
 blt:∃mb,base.Ns builtinsNs mb/\∀x:Str,x≠"__name__" ->mb x=bootBuiltins x
 nolimit:base.NoLimit
structure Cx where
 prog:Program
 w:World
 K:FG
 mg:Str->Option Value
 base:Heap
 A:Around
 N:List Str
 s₀:Shared
 H₀:Hp
 env:Env
 outer:List Env
 stack:List Env
 ex:List Addr
 fn:Str->Bool
 calm:Bool
 pn:AL
 xe:VP
abbrev SE (X:Cx) (e:Expr) (es:List Expr):Prop:=starEach (e::es) X.env=(false,eval e X.env)::starEach es X.env
abbrev BA (X:Cx) (pos:Pos) (es:List Expr):Prop:=(backTo pos (starEach es X.env)).any (·.1)=false
def zX (l:List Env):List Addr:=l.filterMap (·.frame)
abbrev Cx.fs (X:Cx):List Addr:=zX X.outer
def Vis (sc:Scope) (x:Str):Prop:=sc.names.lookup x=some .local\/sc.names.lookup x=some .cell\/sc.names.lookup x=some .free
def qH (sc:Scope) (x:Str):Prop:=sc.names.lookup x=some .local\/sc.names.lookup x=some .cell
def Look (env:Env) (h:Heap) (m:Str->Option Value) (x:Str) (u:Value):Prop:=
 (env.kindOf x=some .local/\m x=some u)\/((env.kindOf x=some .cell\/env.kindOf x=some .free)/\∃c,env.cells.lookup x=some c/\h.IsCell c (some u))
structure Cx.Ok (X:Cx):Prop where
 mod:Mod X.K X.mg X.base
 kind:X.env.scope.kind=.function
 glob:X.env.globals=mainGlobals
 blt:X.env.builtins=builtinsNs
 above:X.s₀.heap.objs.size<=X.env.locals
 inj:∀x y c,X.env.cells.lookup x=some c->X.env.cells.lookup y=some c->x=y
 has:∀x,(X.env.kindOf x=some .cell\/X.env.kindOf x=some .free)->∃c,X.env.cells.lookup x=some c
 cab:∀x c,X.fn x=true->X.env.cells.lookup x=some c->X.s₀.heap.objs.size<=c
 hd:X.calm=true->X.A.handled=none
 frames:X.A.frames=some X.stack
 stk:X.stack=X.outer\/(X.stack=X.env::X.outer/\X.env.frame=some X.env.locals)
 exf:∀b∈X.ex,b≠X.env.locals/\∀x c,X.env.cells.lookup x=some c->c≠b
 bs:∀b o,X.base.get? b=some o->X.s₀.heap.get? b=some o/\X.H₀ b=none
 bsz:X.base.objs.size<=X.s₀.heap.objs.size
 noex:∀b o,X.base.get? b=some o->b∉X.ex
 exfs:∀b∈X.ex,b∉X.fs
 funs:X.s₀.heap.FunFrames X.base X.outer
 frf:∀b∈X.fs,X.H₀ b=none
structure Inv (X:Cx) (pins:AL) (σ:List (Option V)) (H:Hp) (s:Shared):Prop where
 ok:X.Ok
 os:s.os=X.s₀.os
 bare:AllBare s.gens
 base:Un X.fs X.ex X.H₀ H X.s₀.heap s.heap
 loc:∃m,s.heap.Ns X.env.locals m/\∀(i:Nat) (x:Str) (v:V),X.N[i]? =some x->σ[i]? =some (some v)->Vis X.env.scope x->∃u,RelV v u/\Look X.env s.heap m x u
 cell:∀x c,X.env.cells.lookup x=some c->∃v,s.heap.IsCell c v
 free:H X.env.locals=none
 freeC:∀x c,X.env.cells.lookup x=some c->H c=none
 pin:∀p∈X.pn++pins,s.heap.get? p.1=some p.2/\H p.1=none/\p.1≠X.env.locals/\p.1∉X.fs/\∀v,p.2.data≠ .cell v
 hok:HOk X.prog X.w H s.heap
 len:σ.length=X.N.length
section
variable {X:Cx} {pins:AL} {σ:List (Option V)} {H H':Hp} {s:Shared} {h':Heap}
def Cx.Ok.nofr (ok:X.Ok) {b:Addr} {o:Obj} (e:X.base.get? b=some o):b∉X.fs:=fun hb=>by
 have:=(ok.funs.mem hb).1;rw[e]at this;cases this
theorem Inv.bs (I:Inv X pins σ H s):∀b o,X.base.get? b=some o->s.heap.get? b=some o/\H b=none:=fun b o e=>
 ⟨I.base.keep b o (I.ok.bs b o e).1 (I.ok.bs b o e).2 (I.ok.nofr e) (I.ok.noex b o e),I.base.free b o (I.ok.bs b o e).1 (I.ok.bs b o e).2 (I.ok.noex b o e)⟩
def Inv.bk (I:Inv X pins σ H s):∀b o,X.base.get? b=some o->s.heap.get? b=some o:=fun b o e=>(I.bs b o e).1
theorem Inv.mod (I:Inv X pins σ H s):Mod X.K X.mg X.base:=I.ok.mod
def Inv.kIn (I:Inv X pins σ H s):X.K.In s.heap:=I.ok.mod.kin.keeps I.bk
theorem Inv.lt (I:Inv X pins σ H s):X.env.locals<s.heap.objs.size:=let ⟨_,hn,_⟩:=I.loc;hn.lt
def Inv.sz (I:Inv X pins σ H s):X.s₀.heap.objs.size<=s.heap.objs.size:=Bi I.ok.above (C8 I.lt)
def Inv.nofs (I:Inv X pins σ H s) {a:Addr} (h:s.heap.objs.size<=a):a∉X.fs:=fun hb=>by
 obtain⟨_,o,ho,_⟩:=I.ok.funs.mem hb;exact absurd (Ay (Af ho) (Bi I.sz h)) (Bn _)
def Inv.cne (I:Inv X pins σ H s):∀x c,X.env.cells.lookup x=some c->c≠X.env.locals:=fun x c e z=>by
 obtain⟨v,o,ho,hd⟩:=I.cell x c e;obtain⟨m,⟨o',es,ep,ho',hd',_⟩,_⟩:=I.loc;rw[z,ho']at ho;cases ho;rw[hd']at hd;cases hd
theorem Inv.funs (I:Inv X pins σ H s):s.heap.FunFrames X.base X.outer:=by
 have all:∀(l:List Env),(∀b∈zX l,b∈X.fs)->X.s₀.heap.FunFrames X.base l->s.heap.FunFrames X.base l:=by
  intro l
  induction l with
  |nil=>intro _ _;trivial
  |cons env r ih=>
   intro hs hl;obtain⟨hk,⟨L,o,hf,hn,ho,hd⟩,hr⟩:=hl;have hL:L∈X.fs:=hs L (by unfold zX;rw[Er,hf];exact Aj)
   obtain⟨sl,e⟩:=I.base.slot L o ho (I.ok.frf L hL) hL fun z=>I.ok.exfs L z hL
   exact⟨hk,⟨L,_,hf,hn,e,hd⟩,ih (fun b hb=>hs b (by unfold zX;rw[Er,hf];exact Am _ hb)) hr⟩
 exact all X.outer (fun _ hb=>hb) I.ok.funs
theorem Inv.stack (I:Inv X pins σ H s):s.heap.FunFrames X.base X.stack:=by
 rcases I.ok.stk with e|⟨e,hf⟩
 .rw[e];exact I.funs
 .rw[e]
  obtain⟨m,hn,_⟩:=I.loc
  refine .cons (by rw[I.ok.kind];decide) hf hn ?_ I.funs
  exact Fi (Bi I.ok.bsz I.ok.above)
def Inv.stkSub (I:Inv X pins σ H s):∀b∈zX X.stack,b∈X.env.locals::X.fs:=fun b hb=>by
 rcases I.ok.stk with e|⟨e,hf⟩
 .rw[e]at hb;exact Am _ hb
 .rw[e]at hb
  unfold zX at hb;rw[Er,hf]at hb;exact hb
def Inv.stkFree (I:Inv X pins σ H s):∀b∈zX X.stack,H b=none:=fun b hb=>by
 rcases Ae.mp (I.stkSub b hb) with e|hb
 .rw[e];exact I.free
 .obtain⟨_,o,ho,_⟩:=I.ok.funs.mem hb
  exact I.base.free b o ho (I.ok.frf b hb) fun z=>I.ok.exfs b z hb
def Inv.step {g':Array GenState} {t':Nat} {d':Drawn} {ch:List Addr} (I:Inv X pins σ H s)
  (hch:∀b∈ch,(b∈X.ex\/X.s₀.heap.objs.size<=b)/\b≠X.env.locals/\(∀x c,X.env.cells.lookup x=some c->c≠b)/\∀p∈X.pn++pins,p.1≠b)
  (keep:∀b o,b≠X.env.locals->b∉X.fs->b∉ch->s.heap.get? b=some o->H b=none->h'.get? b=some o)
  (slot:∀b o,b≠X.env.locals->b∈X.fs->b∉ch->s.heap.get? b=some o->H b=none->∃sl,h'.get? b=some {o with slots:=sl}) (free:∀b o,b∉ch->s.heap.get? b=some o->H b=none->H' b=none)
  (there:∀b o,b∉ch->s.heap.get? b=some o->∃o',h'.get? b=some o')
  (tups:∀b xs,H b=some (.tup xs)->H' b=some (.tup xs)) (frzs:∀b o u,H b=some (.frz o u)->H' b=some (.frz o u)) (tbls:∀b ps,H b=some (.tbl ps)->∃more,H' b=some (.tbl (ps++more)))
  (ns:∀m,s.heap.Ns X.env.locals m->h'.Ns X.env.locals m) (hok:HOk X.prog X.w H' h') (hg:AllBare g'):
  Inv X pins σ H' {s with heap:=h',gens:=g',drawn:=d',toks:=t'}:=by
 have neL:∀b o,X.s₀.heap.get? b=some o->b≠X.env.locals:=fun b o e=>Aq (Ay (Af e) I.ok.above)
 have neC:∀b o,X.s₀.heap.get? b=some o->b∉X.ex->b∉ch:=fun b o e hx hb=>by
  rcases (hch b hb).1 with z|z
  .exact hx z
  .exact absurd (Ay (Af e) z) (Bn _)
 have cellK:∀x c,X.env.cells.lookup x=some c->∀v,s.heap.IsCell c v->h'.IsCell c v:=fun x c e v ⟨o,ho,hd⟩=>by
  have nch:c∉ch:=fun z=>(hch c z).2.2.1 x c e rfl
  by_cases hc:c∈X.fs
  .obtain⟨sl,q⟩:=slot c o (I.cne x c e) hc nch ho (I.freeC x c e)
   exact⟨_,q,hd⟩
  .exact⟨o,keep c o (I.cne x c e) hc nch ho (I.freeC x c e),hd⟩
 refine⟨I.ok,I.os,hg,⟨fun b o e n hb hx=>?_,fun b o e n hb hx=>?_,fun b o e n hx=>?_,fun b o e hx=>?_,fun b xs e=>tups b xs (I.base.tups b xs e),fun b o xs e=>frzs b o xs (I.base.frzs b o xs e),fun b ps e=>?_⟩,?_,fun x c e=>?_,?_,fun x c e=>?_,fun p hp=>?_,hok,I.len⟩
 .exact keep b o (neL b o e) hb (neC b o e hx) (I.base.keep b o e n hb hx) (I.base.free b o e n hx)
 .obtain⟨sl,e1⟩:=I.base.slot b o e n hb hx
  obtain⟨sl',e2⟩:=slot b _ (neL b o e) hb (neC b o e hx) e1 (I.base.free b o e n hx);exact⟨sl',e2⟩
 .obtain⟨o',e1⟩:=I.base.there b o e hx
  exact free b o' (neC b o e hx) e1 (I.base.free b o e n hx)
 .obtain⟨o',e1⟩:=I.base.there b o e hx
  exact there b o' (neC b o e hx) e1
 .obtain⟨m1,e1⟩:=I.base.tbls b ps e
  obtain⟨m2,e2⟩:=tbls b _ e1;exact⟨m1++m2,by rw[e2,Array.append_assoc]⟩
 .obtain⟨m,hn,hl⟩:=I.loc
  refine⟨m,ns m hn,fun i x v e1 e2 e3=>?_⟩
  obtain⟨u,r,l⟩:=hl i x v e1 e2 e3
  refine⟨u,r,?_⟩
  rcases l with l|⟨k,c,e,z⟩
  .exact .inl l
  .exact .inr ⟨k,c,e,cellK x c e _ z⟩
 .obtain⟨v,z⟩:=I.cell x c e
  exact⟨v,cellK x c e v z⟩
 .obtain⟨m,⟨o,_,_,ho,_⟩,_⟩:=I.loc
  exact free _ o (fun z=>(hch _ z).2.1 rfl) ho I.free
 .obtain⟨v,o,ho,hd⟩:=I.cell x c e
  exact free c o (fun z=>(hch c z).2.2.1 x c e rfl) ho (I.freeC x c e)
 .obtain⟨e,n,ne,nf,d⟩:=I.pin p hp
  have nch:p.1∉ch:=fun z=>(hch p.1 z).2.2.2 p hp rfl
  exact⟨keep p.1 p.2 ne nf nch e n,free p.1 p.2 nch e n,ne,nf,d⟩
def Inv.un {t':Nat} (I:Inv X pins σ H s) (u:Un X.fs [] H H' s.heap h') (hok:HOk X.prog X.w H' h'):Inv X pins σ H' {s with heap:=h',toks:=t'}:=by
 obtain⟨m,⟨o,es,ep,ho,r⟩,_⟩:=id I.loc;obtain⟨sl,hL⟩:=u.any ho I.free (by simp)
 exact I.step (g':=s.gens) (d':=s.drawn) (ch:=[]) (fun _ z=>nomatch z) (fun b o _ hb _ e n=>u.keep b o e n hb (by simp)) (fun b o _ hb _ e n=>u.slot b o e n hb (by simp)) (fun b o _ e n=>u.free b o e n (by simp)) (fun b o _ e=>u.there b o e (by simp)) u.tups u.frzs u.tbls (fun m' hm=>by
  obtain⟨o',es',ep',ho',r'⟩:=hm;rw[ho]at ho';cases ho';exact⟨_,es',ep',hL,r'⟩) hok I.bare
def Inv.call {g':Array GenState} {t':Nat} {d':Drawn} {ch:List Addr} (I:Inv X pins σ H s) (u:Un (zX X.stack) ch H H' s.heap h') (hok:HOk X.prog X.w H' h') (hg:AllBare g')
  (hch:∀b∈ch,(b∈X.ex\/X.s₀.heap.objs.size<=b)/\b≠X.env.locals/\(∀x c,X.env.cells.lookup x=some c->c≠b)/\∀p∈X.pn++pins,p.1≠b):
  Inv X pins σ H' {s with heap:=h',gens:=g',drawn:=d',toks:=t'}:=by
 obtain⟨m,⟨o,es,ep,ho,r⟩,_⟩:=id I.loc;obtain⟨sl,hL⟩:=u.any ho I.free fun z=>(hch _ z).2.1 rfl
 exact I.step (ch:=ch) hch (fun b o hL hb hc e n=>u.keep b o e n (fun z=>(Ae.mp (I.stkSub b z)).elim hL hb) hc) (fun b o _ _ hc e n=>u.any e n hc) (fun b o hc e n=>u.free b o e n hc) (fun b o hc e=>u.there b o e hc) u.tups u.frzs u.tbls (fun m' hm=>by
  obtain⟨o',es',ep',ho',r'⟩:=hm;rw[ho]at ho';cases ho';exact⟨_,es',ep',hL,r'⟩) hok hg
def Inv.turned {t':Nat} {it:Addr} (I:Inv X pins σ H s) (k:∀b o,b≠it->s.heap.get? b=some o->h'.get? b=some o) (hn:H it=none) (hL:it≠X.env.locals)
  (h1:it∈X.ex\/X.s₀.heap.objs.size<=it) (h2:∀x c,X.env.cells.lookup x=some c->c≠it) (h3:∀p∈X.pn++pins,p.1≠it):Inv X pins σ H {s with heap:=h',toks:=t'}:=by
 have nit:∀b u,H b=some u->b≠it:=fun b u e z=>by rw[z,hn]at e;cases e
 refine I.step (g':=s.gens) (d':=s.drawn) (ch:=[it]) (fun b hb=>?_) (fun b o _ _ hc e _=>k b o (fun z=>hc (by simp[z])) e) (fun b o _ _ hc e _=>⟨o.slots,k b o (fun z=>hc (by simp[z])) e⟩) (fun _ _ _ _ n=>n)
  (fun b o hc e=>⟨o,k b o (fun z=>hc (by simp[z])) e⟩) (fun _ _ e=>e) (fun _ _ _ e=>e) (fun b ps e=>⟨#[],by rw[e];simp⟩) (fun m hm=>?_) (fun b u e=>?_) I.bare
 .have e:b=it:=by simpa using hb
  subst e;exact⟨h1,hL,h2,h3⟩
 .obtain⟨o,es,ep,ho,r⟩:=hm
  exact⟨o,es,ep,k _ o (A5 hL) ho,r⟩
 .refine (I.hok b u e).stay (fun c v hc q=>k c v ?_ q) (fun _ q=>q) fun _ _ q=>q
  rcases hc with z|z
  .rw[z];exact nit b u e
  .exact nit c _ z
def Inv.tok (I:Inv X pins σ H s) (t:Nat):Inv X pins σ H {s with toks:=t}:=I.un (h':=s.heap) (t':=t) Un.refl I.hok
theorem Inv.kept {t':Nat} (I:Inv X pins σ H s) (k:∀b u,s.heap.get? b=some u->h'.get? b=some u):Inv X pins σ H {s with heap:=h',toks:=t'}:=I.un (Un.kept k) (I.hok.kept k)
theorem Inv.laid {a:Addr} {o:HO} {t':Nat} (I:Inv X pins σ H s) (k:∀b u,s.heap.get? b=some u->h'.get? b=some u) (hp:s.heap.objs.size<=a) (new:ObjOk X.prog X.w (zi H a o) h' a o):
 Inv X pins σ (zi H a o) {s with heap:=h',toks:=t'}:=I.un (Un.laid k hp (I.hok.fresh hp)) (I.hok.laid k hp new)
theorem Inv.write {x e:Addr} {o:HO} {t':Nat} (I:Inv X pins σ H s) (mu:Mut (H x)) (he:e=x\/H e=some (.own x)) (k:∀b u,b≠e->s.heap.get? b=some u->h'.get? b=some u) (heo:∃u,h'.get? e=some u)
 (new:ObjOk X.prog X.w (zi H x o) h' x o):Inv X pins σ (zi H x o) {s with heap:=h',toks:=t'}:=I.un (Un.write mu he k heo) (I.hok.write mu he k heo new)
def Inv.pins_of {pins':AL} (I:Inv X pins σ H s) (h:∀p∈pins',s.heap.get? p.1=some p.2/\H p.1=none/\p.1≠X.env.locals/\p.1∉X.fs/\∀v,p.2.data≠ .cell v):Inv X pins' σ H s:=
 ⟨I.ok,I.os,I.bare,I.base,I.loc,I.cell,I.free,I.freeC,fun p hp=>(Aw.mp hp).elim (fun z=>I.pin p (Cu _ z)) (h p),I.hok,I.len⟩
def Hq {N:List Str} (hN:N.Nodup) {i j:Nat} {x:Str} (a:N[i]? =some x) (b:N[j]? =some x):i=j:=by
 obtain⟨h1,e1⟩:=An.mp a;obtain⟨h2,e2⟩:=An.mp b;exact (List.getElem_inj hN).mp (e1.trans e2.symm)
def Ni {M:Model} {A:Around} {E:VP} {i:Nat} {x:Str} {v:V} {u:Value} {Q:Unit->Shared->Prop} (I:Inv X pins σ H s) (hN:X.N.Nodup) (hi:X.N[i]? =some x) (hx:qH X.env.scope x) (r:RelV v u)
  (h:∀s',Inv X pins (σ.set i (some v)) H s'->(∃a,Heap.SameBut a s.heap s'.heap/\(a=X.env.locals\/X.env.cells.lookup x=some a))->Q () s') (hf:X.fn x=true\/X.env.scope.names.lookup x=some .local:=by first|exact .inl rfl|exact .inr rfl|assumption):wpAny M A (storeName X.env x u) Q E s:=by
 obtain⟨m,hn,hl⟩:=id I.loc;have hcls:(X.env.scope.kind== .class || (X.env.scope.kind== .module && X.env.locals !=X.env.globals))=false:=by rw[I.ok.kind];rfl
 have hiσ:i<σ.length:=by rw[I.len];exact (An.mp hi).1
 have cne:=I.cne;have tracked:∀{a:Addr} {h':Heap},(∃o,s.heap.get? a=some o/\H a=none)->Heap.SameBut a s.heap h'->HOk X.prog X.w H h':=fun {a h'} ha hs b ob e=>by
  obtain⟨_,_,hfree⟩:=ha
  refine (I.hok b ob e).stay (fun c w' hc q=>(hs.2 c ?_).trans q) (fun _ q=>q) fun _ _ q=>q
  rintro rfl
  rcases hc with rfl|hc
  .rw[hfree]at e;cases e
  .rw[hfree]at hc;cases hc
 rcases hx with hk|hk
 .refine wpAny_storeName_local hk hn (fun h' hn' hs=>?_) hcls
  obtain⟨oL,_,_,hoL,_⟩:=id hn
  refine h _ ⟨I.ok,I.os,I.bare,⟨fun b o e n hb hx=>?_,fun b o e n hb hx=>?_,I.base.free,fun b o e hx=>?_,I.base.tups,I.base.frzs,I.base.tbls⟩,⟨_,hn',fun j y v' e1 e2 e3=>?_⟩,fun y c e=>?_,I.free,I.freeC,fun p hp=>?_,tracked ⟨oL,hoL,I.free⟩ hs,by simpa using I.len⟩ ⟨_,hs,.inl rfl⟩
  .exact (hs.2 b (Aq (Ay (Af e) I.ok.above))).trans (I.base.keep b o e n hb hx)
  .obtain⟨sl,e1⟩:=I.base.slot b o e n hb hx
   exact⟨sl,(hs.2 b (Aq (Ay (Af e) I.ok.above))).trans e1⟩
  .obtain⟨o',e1⟩:=I.base.there b o e hx
   exact⟨o',(hs.2 b (Aq (Ay (Af e) I.ok.above))).trans e1⟩
  .by_cases hj:j=i
   .subst hj
    rw[hi]at e1;cases e1;rw[Es hiσ]at e2;cases e2;exact⟨u,r,.inl ⟨hk,by simp⟩⟩
   .rw[D8 (A5 hj)]at e2
    obtain⟨u',r',q⟩:=hl j y v' e1 e2 e3
    refine⟨u',r',?_⟩
    rcases q with ⟨k,e⟩|⟨k,c,e,z⟩
    .refine .inl ⟨k,?_⟩
     have:y≠x:=fun e=>hj (Hq hN e1 (e ▸ hi))
     simp[this,e]
    .exact .inr ⟨k,c,e,z.sameBut hs (cne y c e)⟩
  .obtain⟨w',z⟩:=I.cell y c e
   exact⟨w',z.sameBut hs (cne y c e)⟩
  .obtain⟨e,n,ne,nf,d⟩:=I.pin p hp
   exact⟨(hs.2 p.1 ne).trans e,n,ne,nf,d⟩
 .have hfn:X.fn x=true:=by
   rcases hf with z|z
   .exact z
   .rw[z]at hk;cases hk
  obtain⟨c,hc⟩:=I.ok.has x (.inl hk);obtain⟨w',z⟩:=I.cell x c hc
  refine wpAny_storeName_cell I.ok.kind hk hc z (fun h' hc' hs=>?_)
  obtain⟨oc,hoc,hocd⟩:=id z
  refine h {s with heap:=h'} ⟨I.ok,I.os,I.bare,⟨fun b o e n hb hx=>?_,fun b o e n hb hx=>?_,I.base.free,fun b o e hx=>?_,I.base.tups,I.base.frzs,I.base.tbls⟩,⟨m,hn.sameBut hs (A5 (cne x c hc)),fun j y v' e1 e2 e3=>?_⟩,fun y c' e=>?_,I.free,I.freeC,fun p hp=>?_,tracked ⟨oc,hoc,I.freeC x c hc⟩ hs,by simpa using I.len⟩ ⟨c,hs,.inr hc⟩
  .exact (hs.2 b (Aq (Ay (Af e) (I.ok.cab x c hfn hc)))).trans (I.base.keep b o e n hb hx)
  .obtain⟨sl,e1⟩:=I.base.slot b o e n hb hx
   exact⟨sl,(hs.2 b (Aq (Ay (Af e) (I.ok.cab x c hfn hc)))).trans e1⟩
  .obtain⟨o',e1⟩:=I.base.there b o e hx
   exact⟨o',(hs.2 b (Aq (Ay (Af e) (I.ok.cab x c hfn hc)))).trans e1⟩
  .by_cases hj:j=i
   .subst hj
    rw[hi]at e1;cases e1;rw[Es hiσ]at e2;cases e2;exact⟨u,r,.inr ⟨.inl hk,c,hc,hc'⟩⟩
   .rw[D8 (A5 hj)]at e2
    obtain⟨u',r',q⟩:=hl j y v' e1 e2 e3
    refine⟨u',r',?_⟩
    rcases q with q|⟨k,c',e,z'⟩
    .exact .inl q
    .refine .inr ⟨k,c',e,z'.sameBut hs ?_⟩
     rintro rfl;exact hj (Hq hN e1 (I.ok.inj _ _ _ e hc ▸ hi))
  .by_cases hcc:c'=c
   .subst hcc;exact⟨_,hc'⟩
   .obtain⟨w2,z2⟩:=I.cell y c' e
    exact⟨w2,z2.sameBut hs hcc⟩
  .obtain⟨e,n,ne,nf,d⟩:=I.pin p hp
   refine⟨(hs.2 p.1 ?_).trans e,n,ne,nf,d⟩
   intro q;rw[q,hoc]at e;have q':oc=p.2:=Option.some.inj e;exact d w' (by rw[<-q'];exact hocd)
def EC {M:Model} {A:Around} {E:VP} {i:Nat} {x:Str} {v:V} {u:Value} {Q:Unit->Shared->Prop} (I:Inv X pins σ H s) (hN:X.N.Nodup) (hi:X.N[i]? =some x) (hx:qH X.env.scope x) (r:RelV v u)
  (h:∀s',Inv X pins (σ.set i (some v)) H s'->Q () s') (hf:X.fn x=true\/X.env.scope.names.lookup x=some .local:=by first|exact .inl rfl|exact .inr rfl|assumption):wpAny M A (storeName X.env x u) Q E s:=
 Ni I hN hi hx r (fun s' I' _=>h s' I') hf
def Inv.call' {s':Shared} {ch:List Addr} (I:Inv X pins σ H s) (ho:s'.os=s.os) (u:Un (zX X.stack) ch H H' s.heap s'.heap) (hok:HOk X.prog X.w H' s'.heap) (hg:AllBare s'.gens)
  (hch:∀b∈ch,(b∈X.ex\/X.s₀.heap.objs.size<=b)/\b≠X.env.locals/\(∀x c,X.env.cells.lookup x=some c->c≠b)/\∀p∈X.pn++pins,p.1≠b):Inv X pins σ H' s':=by
 obtain⟨h',g',d',t',o'⟩:=s';have e:o'=s.os:=ho;subst e;exact I.call (g':=g') (t':=t') (d':=d') u hok hg hch
end
abbrev XK:=Value->Option Addr->Hp->Prop
abbrev St:=List (Option V)
abbrev VK:=V->Hp->Prop
abbrev TE:=St->Hp->VK->Prop
abbrev TT:=St->Hp->(Bool->Hp->Prop)->Prop
abbrev TA:=St->Hp->(List V->Hp->Prop)->Prop
structure Ends where
 nx:St->Hp->Prop
 rt:VK
 bk:St->Hp->Prop:=fun _ _=>False
 ct:St->Hp->Prop:=fun _ _=>False
abbrev TS:=Ends->St->Hp->Prop
def EP (X:Cx) (pins:AL) (σ:St) (Q:VK) (u:Value) (s':Shared):Prop:=∃v H',Inv X pins σ H' s'/\RelV v u/\Q v H'
def TP (X:Cx) (pins:AL) (σ:St) (Q:Bool->Hp->Prop) (b:Bool) (s':Shared):Prop:=∃H',Inv X pins σ H' s'/\Q b H'
def AP (X:Cx) (pins:AL) (σ:St) (Q:List V->Hp->Prop) (us:List Value) (s':Shared):Prop:=∃vs H',Inv X pins σ H' s'/\Vals vs us/\Q vs H'
def SP (X:Cx) (pins:AL) (D:Ends) (f:Flow) (s':Shared):Prop:=
 match f with
 |.next=> ∃σ' H',Inv X pins σ' H' s'/\D.nx σ' H'
 |.brk=> ∃σ' H',Inv X pins σ' H' s'/\D.bk σ' H'
 |.cont=> ∃σ' H',Inv X pins σ' H' s'/\D.ct σ' H'
 |.ret u=> ∃v σ' H',Inv X pins σ' H' s'/\RelV v u/\D.rt v H'
def PE (X:Cx) (e:Expr) (t:TE):Prop:=
 ∀(pins:AL) (s:Shared) (σ:St) (H:Hp) (Q:VK),Inv X pins σ H s->t σ H Q->wpAny (model X.prog X.w) X.A (eval e X.env) (EP X pins σ Q) X.xe s
def PT (X:Cx) (e:Expr) (t:TT):Prop:=
 ∀(pins:AL) (s:Shared) (σ:St) (H:Hp) (Q:Bool->Hp->Prop),Inv X pins σ H s->t σ H Q->wpAny (model X.prog X.w) X.A (isTrue e X.env (eval e X.env)) (TP X pins σ Q) X.xe s
def PW (X:Cx) (e:Expr) (t:TT):Prop:=
 ∀(whole:Sem Value) (pins:AL) (s:Shared) (σ:St) (H:Hp) (Q:Bool->Hp->Prop),Inv X pins σ H s->t σ H Q->wpAny (model X.prog X.w) X.A (isTrue e X.env whole) (TP X pins σ Q) X.xe s
def PW.pt {X:Cx} {e:Expr} {t:TT} (h:PW X e t):PT X e t:=h _
def PA (X:Cx) (es:List Expr) (t:TA):Prop:=
 ∀(pos:Pos) (pins:AL) (s:Shared) (σ:St) (H:Hp) (Q:List V->Hp->Prop),Inv X pins σ H s->t σ H Q->wpAny (model X.prog X.w) X.A (spliced (backTo pos (starEach es X.env))) (AP X pins σ Q) X.xe s
def PS (X:Cx) (st:Stmt) (t:TS):Prop:=
 ∀(pins:AL) (s:Shared) (σ:St) (H:Hp) (D:Ends),Inv X pins σ H s->t D σ H->wpAny (model X.prog X.w) X.A (exec st X.env) (SP X pins D) X.xe s
def yj (X:Cx) (st:List Stmt) (t:TS):Prop:=
 ∀(pins:AL) (s:Shared) (σ:St) (H:Hp) (D:Ends),Inv X pins σ H s->t D σ H->wpAny (model X.prog X.w) X.A (execs st X.env) (SP X pins D) X.xe s
def thn {α:Type} {t:Sem α} {Q Q':α->Shared->Prop} {M:Model} {A:Around} {E:VP} {s:Shared} (h:wpAny M A t Q E s) (hQ:∀a s,Q a s->Q' a s):wpAny M A t Q' E s:=Bj h hQ fun _ _ x=>x
section
variable {X:Cx}
def tVar (i:Nat):TE:=fun σ H Q=> ∃v,σ[i]? =some (some v)/\Q v H
def tC (v:V):TE:=fun _ H Q=>Q v H
def ED {i:Nat} {x:Str} {pos:Pos} (hN:X.N[i]? =some x) (hv:Vis X.env.scope x) (hd:(x==("__debug__" :Str))=false:=by decide) (hcd:(x==("__classdict__" :Str))=false:=by decide):PE X (.Name x pos) (tVar i):=by
 intro pins s σ H Q I h;obtain⟨v,e,h⟩:=h;obtain⟨m,hn,hl⟩:=I.loc;obtain⟨u,r,l⟩:=hl i x v hN e hv;have zW:EP X pins σ Q u s:=⟨v,H,I,r,h⟩
 rcases l with ⟨hk,hm⟩|⟨hk,c,hc,hcell⟩
 .exact wpAny_Name (wpAny_loadName_local I.ok.kind hk hn hm zW) hd
 .rcases hk with hk|hk
  .exact wpAny_Name (wpAny_loadName_cell I.ok.kind hk hc hcell zW) hd
  .exact wpAny_Name (wpAny_loadName_free I.ok.kind hk hc hcell zW hcd) hd
def Nj {i j pos}:PE X (.Constant (.int i) j pos) (tC (.int i)):=fun _ _ _ H _ I h=>wpAny_Constant_int ⟨.int i,H,I.tok _,⟨_,rfl⟩,h⟩
def Nk {b j pos}:PE X (.Constant (.bool b) j pos) (tC (.bl b)):=fun _ _ _ H _ I h=>Constant_bool ⟨.bl b,H,I,rfl,h⟩
def JB {x j pos}:PE X (.Constant (.str x) j pos) (tC (.str x)):=fun _ _ _ H _ I h=>Calls.Constant_str ⟨.str x,H,I.tok _,⟨_,rfl⟩,h⟩
def Gl (X:Cx) (x:Str):Prop:=X.env.kindOf x=some .globalImplicit
def AK {E:VP} {pins:AL} {s:Shared} {σ:St} {H:Hp} {x:Str} {u:Value} {pos:Pos} {Q:VP} (I:Inv X pins σ H s) (hg:Gl X x) (hm:X.mg x=some u) (h:Q u s)
  (hd:(x==("__debug__" :Str))=false:=by decide):wpAny (model X.prog X.w) X.A (eval (.Name x pos) X.env) Q E s:=
 Calls.Name_function_global I.ok.kind hg (Calls.loadGlobal_global (by rw[I.ok.glob];exact I.mod.glob.keeps I.bk) hm h) hd
def AM {E:VP} {pins:AL} {s:Shared} {σ:St} {H:Hp} {x:Str} {u:Value} {pos:Pos} {Q:VP} (I:Inv X pins σ H s) (hg:Gl X x) (hm:X.mg x=none) (hv:bootBuiltins x=some u) (h:Q u s)
  (hn:x≠"__name__" :=by decide) (hd:(x==("__debug__" :Str))=false:=by decide):wpAny (model X.prog X.w) X.A (eval (.Name x pos) X.env) Q E s:=by
 obtain⟨mb,h1,h2⟩:=I.mod.blt;exact Calls.Name_function_global I.ok.kind hg (Calls.loadGlobal_builtin (by rw[I.ok.glob];exact I.mod.glob.keeps I.bk) hm (by rw[I.ok.blt];exact h1.keeps I.bk) ((h2 x hn).trans hv) h) hd
def qE {x:Str} {v:V} {u:Value} {pos:Pos} (hg:Gl X x) (hm:X.mg x=some u) (r:RelV v u) (hd:(x==("__debug__" :Str))=false:=by decide):PE X (.Name x pos) (tC v):=
 fun _ _ _ H _ I h=>AK I hg hm ⟨v,H,I,r,h⟩ hd
def AN {x:Str} {v:V} {u:Value} {pos:Pos} (hg:Gl X x) (hm:X.mg x=none) (hv:bootBuiltins x=some u) (r:RelV v u) (hn:x≠"__name__" :=by decide) (hd:(x==("__debug__" :Str))=false:=by decide):PE X (.Name x pos) (tC v):=
 fun _ _ _ H _ I h=>AM I hg hm hv ⟨v,H,I,r,h⟩ hn hd
variable {a b:Expr} {ta tb:TE} {pos:Pos}
def tB (t:TE):TT:=fun σ H Q=>t σ H fun x H1=> ∃c,x=.bl c/\Q c H1
def Nl {e:Expr} {t:TE} (h:PE X e t) (he:∀whole,isTrue e X.env whole=(do let v <-whole;standAt e.pos;holding [v] (truthy v)):=by intro _;rfl):PT X e (tB t):=by
 intro pins s σ H Q I hw
 refine isTrue_plain (thn (h pins s σ H _ I hw) fun v s1 ⟨x,H1,I1,r1,q1⟩=>?_) (he _)
 obtain⟨d,rfl,q⟩:=q1;cases r1;exact Cb ⟨H1,I1,q⟩
variable {tA tB':TT} {rest:List Expr}
def tAnd (t u:TT):TT:=fun σ H Q=>t σ H fun c H1=>if c=true then u σ H1 Q else Q false H1
def tOr (t u:TT):TT:=fun σ H Q=>t σ H fun c H1=>if c=true then Q true H1 else u σ H1 Q
def tNot (t:TT):TT:=fun σ H Q=>t σ H fun c H1=>Q (!c) H1
def Nm (ha:PT X a tA):PW X (.BoolOp .And [a] pos) tA:=by
 intro wh pins s σ H Q I h
 refine isTrue_and (thn (ha pins s σ H Q I h) fun c s1 e=>?_)
 cases c with
 |true=>exact isTrue_and_nil e
 |false=>exact e
def Nn (ha:PT X a tA):PW X (.BoolOp .Or [a] pos) tA:=by
 intro wh pins s σ H Q I h
 refine isTrue_or (thn (ha pins s σ H Q I h) fun c s1 e=>?_)
 cases c with
 |false=>exact isTrue_or_nil e
 |true=>exact e
def Np (ha:PT X a tA) (hb:PW X (.BoolOp .And (b::rest) pos) tB'):PW X (.BoolOp .And (a::b::rest) pos) (tAnd tA tB'):=by
 intro wh pins s σ H Q I h
 refine isTrue_and (thn (ha pins s σ H _ I h) fun c s1 ⟨H1,I1,q1⟩=>?_)
 cases c with
 |true=>exact hb wh pins s1 σ H1 Q I1 q1
 |false=>exact⟨H1,I1,q1⟩
def Nq (ha:PT X a tA) (hb:PW X (.BoolOp .Or (b::rest) pos) tB'):PW X (.BoolOp .Or (a::b::rest) pos) (tOr tA tB'):=by
 intro wh pins s σ H Q I h
 refine isTrue_or (thn (ha pins s σ H _ I h) fun c s1 ⟨H1,I1,q1⟩=>?_)
 cases c with
 |true=>exact⟨H1,I1,q1⟩
 |false=>exact hb wh pins s1 σ H1 Q I1 q1
def Nr (ha:PT X a tA):PT X (.UnaryOp .Not a pos) (tNot tA):=by
 intro pins s σ H Q I h;exact isTrue_not (ha pins s σ H (fun c H1=>Q (!c) H1) I h)
def Nt (ta tb:TE):TE:=fun σ H Q=>ta σ H fun x H1=> ∃c,x=.bl c/\if c=true then tb σ H1 Q else Q (.bl false) H1
def Nu (ta:TE):TE:=fun σ H Q=>ta σ H fun x H1=> ∃c,x=.bl c/\Q (.bl (!c)) H1
def Nv {op} {t:TE} (h:PE X a t):PE X (.BoolOp op [a] pos) t:=fun pins s σ H Q I hw=>BoolOp_one (h pins s σ H Q I hw)
def Nx (ha:PE X a ta) (hb:PE X (.BoolOp .And (b::rest) pos) tb):PE X (.BoolOp .And (a::b::rest) pos) (Nt ta tb):=by
 intro pins s σ H Q I h
 refine BoolOp_and (thn (ha pins s σ H _ I h) fun v s1 ⟨x,H1,I1,r1,q1⟩=>?_)
 obtain⟨c,rfl,q1⟩:=q1;cases r1
 refine Cb ?_
 cases c with
 |true=>exact hb pins s1 σ H1 Q I1 q1
 |false=>exact⟨.bl false,H1,I1,rfl,q1⟩
def Ny (ha:PE X a ta):PE X (.UnaryOp .Not a pos) (Nu ta):=by
 intro pins s σ H Q I h
 refine UnaryOp_ (thn (ha pins s σ H _ I h) fun v s1 ⟨x,H1,I1,r1,q1⟩=>?_)
 obtain⟨c,rfl,q1⟩:=q1;cases r1;exact not_of (Cb ⟨.bl (!c),H1,I1,rfl,q1⟩)
end
def SqL (K:FG) (H:Hp) (a:Addr) (xs:List V):Prop:=
 Rd H a (.lst xs)\/
  ∃(o:Obj) (its:Array Value) (n:Nat),K.lookup a=some o/\o.cls=.type "list" /\o.dict=none/\o.data=.seq its n/\its.size<=sizeLine/\Vals xs its.toList
def SqT (K:FG) (H:Hp) (a:Addr) (xs:List V):Prop:=
 Rd H a (.tup xs)\/
  ∃(o:Obj) (its:Array Value) (n:Nat),K.lookup a=some o/\o.cls=.type "tuple" /\o.data=.seq its n/\its.size<=sizeLine/\Vals xs its.toList
def absV:Value->Option V
 |.none=>some .non
 |.bool b=>some (.bl b)
 |.int i _=>some (.int i)
 |.str x _=>some (.str x)
 |.bytes b _=>some (.byt b)
 |.float b _=>some (.flt b)
 |.ref a=>some (.ref a)
 |.type n=>some (.ty n)
 |_=>none
def RelV.abs {x:V} {u:Value} (r:RelV x u):absV u=some x:=by
 cases x with
 |non=>cases r;rfl
 |bl _=>cases r;rfl
 |int _=>obtain⟨t,rfl⟩:=r;rfl
 |str _=>obtain⟨t,rfl⟩:=r;rfl
 |byt _=>obtain⟨t,rfl⟩:=r;rfl
 |flt _=>obtain⟨t,rfl⟩:=r;rfl
 |ref _=>cases r;rfl
 |ty _=>cases r;rfl
theorem RelV.inj {x y:V} {u:Value} (r:RelV x u) (q:RelV y u):x=y:=Option.some.inj (r.abs.symm.trans q.abs)
theorem Vals.inj:∀{xs ys:List V} {us:List Value},Vals xs us->Vals ys us->xs=ys
 |_,_,_,.nil,.nil=>rfl
 |_,_,_,.cons r t,.cons r' t'=>by rw[r.inj r',Vals.inj t t']
section
variable {X:Cx} {pins:AL} {σ:St} {H:Hp} {s:Shared} {a:Addr} {xs ys:List V}
def SqL.of {K:FG} (h:H a=some (.lst xs)):SqL K H a xs:= .inl (.inl h)
def SqT.of {K:FG} (h:H a=some (.tup xs)):SqT K H a xs:= .inl (.inl h)
def Inv.list (I:Inv X pins σ H s) (h:SqL X.K H a xs):∃its:List Value,Vals xs its/\PlainL s.heap a its.toArray/\xs.length<=sizeLine:=by
 rcases h with h|⟨o,its,n,hk,hc,hd,hs,hz,r⟩
 .obtain⟨z,its,n,r,e⟩:=h.ok I.hok
  exact⟨its,r,⟨_,n,e,rfl,rfl,rfl⟩,z⟩
 .refine⟨its.toList,r,⟨o,n,I.kIn a o hk,hc,hd,by simpa using hs⟩,?_⟩
  have e:=r.length;simp only[Cc]at e;lia
def Inv.tuple (I:Inv X pins σ H s) (h:SqT X.K H a xs):∃its:List Value,Vals xs its/\IsTup s.heap a its.toArray/\xs.length<=sizeLine:=by
 rcases h with h|⟨o,its,n,hk,hc,hs,hz,r⟩
 .obtain⟨z,its,r,p⟩:=h.ok I.hok
  exact⟨its,r,p,z⟩
 .refine⟨its.toList,r,⟨o,I.kIn a o hk,hc,n,by simpa using hs⟩,?_⟩
  have e:=r.length;simp only[Cc]at e;lia
def Inv.list_inj (I:Inv X pins σ H s) (h:SqL X.K H a xs) (h':SqL X.K H a ys):xs=ys:=by
 obtain⟨its,r,⟨o,n,e,_,_,d⟩,_⟩:=I.list h;obtain⟨its',r',⟨o',n',e',_,_,d'⟩,_⟩:=I.list h';rw[e]at e';cases e';rw[d]at d';injection d' with d1 _
 have:its=its':=by simpa using congrArg Array.toList d1
 subst this;exact r.inj r'
def Inv.tuple_inj (I:Inv X pins σ H s) (h:SqT X.K H a xs) (h':SqT X.K H a ys):xs=ys:=by
 obtain⟨its,r,⟨o,e,_,n,d⟩,_⟩:=I.tuple h;obtain⟨its',r',⟨o',e',_,n',d'⟩,_⟩:=I.tuple h';rw[e]at e';cases e';rw[d]at d';injection d' with d1 _
 have:its=its':=by simpa using congrArg Array.toList d1
 subst this;exact r.inj r'
end
abbrev Cx.wish (X:Cx) (E:VP):Cx:={X with xe:=E}
theorem Cx.Ok.wish {X:Cx} (ok:X.Ok) (E:VP):(X.wish E).Ok:=
 ⟨ok.mod,ok.kind,ok.glob,ok.blt,ok.above,ok.inj,ok.has,ok.cab,ok.hd,ok.frames,ok.stk,ok.exf,ok.bs,ok.bsz,ok.noex,ok.exfs,ok.funs,ok.frf⟩
def Cx.Ok.unwish {X:Cx} {E:VP} (ok:(X.wish E).Ok):X.Ok:=
 ⟨ok.mod,ok.kind,ok.glob,ok.blt,ok.above,ok.inj,ok.has,ok.cab,ok.hd,ok.frames,ok.stk,ok.exf,ok.bs,ok.bsz,ok.noex,ok.exfs,ok.funs,ok.frf⟩
section
variable {X:Cx} {pins:AL} {σ:St} {H:Hp} {s:Shared} {E:VP}
theorem Inv.wish (I:Inv X pins σ H s) (E:VP):Inv (X.wish E) pins σ H s:=⟨I.ok.wish E,I.os,I.bare,I.base,I.loc,I.cell,I.free,I.freeC,I.pin,I.hok,I.len⟩
theorem Inv.unwish (I:Inv (X.wish E) pins σ H s):Inv X pins σ H s:=⟨I.ok.unwish,I.os,I.bare,I.base,I.loc,I.cell,I.free,I.freeC,I.pin,I.hok,I.len⟩
end
section
variable {X:Cx} {st:Stmt} {rest:List Stmt} {t u:TS} {e:Expr} {te:TE} {pos:Pos}
def Nz:TS:=fun D σ H=>D.nx σ H
def tSeq (t u:TS):TS:=fun D σ H=>t {D with nx:=u D} σ H
def N0:yj X [] Nz:=fun _ _ σ H _ I h=>wpAny_execs_nil ⟨σ,H,I,h⟩
def JC (h1:PS X st t) (h2:yj X rest u):yj X (st::rest) (tSeq t u):=by
 intro pins s σ H D I h
 refine wpAny_execs_cons (thn (h1 pins s σ H {D with nx:=u D} I h) fun f s1 q=>?_)
 cases f with
 |next=>
  obtain⟨σ',H',I',q⟩:=q;exact h2 pins s1 σ' H' D I' q
 |ret v=>exact q
 |brk=>exact q
 |cont=>exact q
def Hr (h1:PS X st t):yj X [st] t:=by
 intro pins s σ H D I h
 refine wpAny_execs_cons (thn (h1 pins s σ H D I h) fun f s1 q=>?_)
 cases f with
 |next=>exact wpAny_execs_nil q
 |ret v=>exact q
 |brk=>exact q
 |cont=>exact q
def Inv.quiet {pins:AL} {σ:St} {H:Hp} {s:Shared} (I:Inv X pins σ H s):interactive X.env=false:=by simp[interactive,I.ok.kind]
def JD (te:TE):TS:=fun D σ H=>te σ H fun _ H1=>D.nx σ H1
def EE (he:PE X e te) (hs:swapsWith e none pos.line X.env=pure false:=by rfl):PS X (.Expr e pos) (JD te):=by
 intro pins s σ H D I h;exact wpAny_Expr_any (thn (he pins s σ H _ I h) fun v s1 ⟨x,H1,I1,r1,q1⟩=>⟨σ,H1,I1,q1⟩) I.quiet hs
def tRet (te:TE):TS:=fun D σ H=>te σ H D.rt
def JE (he:PE X e te):PS X (.Return (some e) pos) (tRet te):=by
 intro pins s σ H D I h;exact wpAny_Return_some (thn (he pins s σ H _ I h) fun v s1 ⟨x,H1,I1,r1,q1⟩=>⟨x,σ,H1,I1,r1,q1⟩)
def tIfS (c:TT) (t u:TS):TS:=fun D σ H=>c σ H fun b H1=>if b=true then t D σ H1 else u D σ H1
def N1 {c:Expr} {a b:List Stmt} {tc:TT} (hc:PT X c tc) (ha:yj X a t) (hb:yj X b u):PS X (.If c a b pos) (tIfS tc t u):=by
 intro pins s σ H D I h
 refine wpAny_If (thn (hc pins s σ H _ I h) fun d s1 ⟨H1,I1,q1⟩=>?_)
 cases d with
 |true=>exact ha pins s1 σ H1 D I1 q1
 |false=>exact hb pins s1 σ H1 D I1 q1
def N2:TS:=fun _ _ _=>False
def N3:PS X st N2:=fun _ _ _ _ _ _ h=>h.elim
end
abbrev TG:=V->St->Hp->(St->Hp->Prop)->Prop
abbrev qS:=List V->St->Hp->(St->Hp->Prop)->Prop
def PG (X:Cx) (target:Expr) (t:TG):Prop:=
 ∀(pins:AL) (s:Shared) (σ:St) (H:Hp) (v:V) (u:Value) (Q:St->Hp->Prop),Inv X pins σ H s->RelV v u->t v σ H Q->
  wpAny (model X.prog X.w) X.A (assign target X.env u) (fun _ s'=> ∃σ' H',Inv X pins σ' H' s'/\Q σ' H') X.xe s
def qA (X:Cx) (ts:List Expr) (t:qS):Prop:=
 ∀(pins:AL) (s:Shared) (σ:St) (H:Hp) (vs:List V) (us:List Value) (Q:St->Hp->Prop),Inv X pins σ H s->Vals vs us->t vs σ H Q->
  wpAny (model X.prog X.w) X.A (assignInOrder ((assignEach ts X.env).map (·.2)) us) (fun _ s'=> ∃σ' H',Inv X pins σ' H' s'/\Q σ' H') X.xe s
abbrev TSet:=V->V->V->Hp->(Hp->Prop)->Prop
def PSet (X:Cx) (t:TSet):Prop:=
 ∀(pins:AL) (s:Shared) (σ:St) (H:Hp) (o i v:V) (ov iv u:Value) (Q:Hp->Prop),Inv X pins σ H s->RelV o ov->RelV i iv->RelV v u->t o i v H Q->
  wpAny (model X.prog X.w) X.A (setItem ov iv u) (fun _ s'=> ∃H',Inv X pins σ H' s'/\Q H') X.xe s
abbrev TIp:=V->V->Hp->VK->Prop
def PIp (X:Cx) (op:Operator) (t:TIp):Prop:=
 ∀(pins:AL) (s:Shared) (σ:St) (H:Hp) (x y:V) (v u:Value) (Q:VK),Inv X pins σ H s->RelV x v->RelV y u->t x y H Q->
  wpAny (model X.prog X.w) X.A (inplaceOp op v u) (EP X pins σ Q) X.xe s
section
variable {X:Cx} {pos:Pos}
def EF (i:Nat):TG:=fun v σ H Q=>Q (σ.set i (some v)) H
def Hs {i:Nat} {x:Str} (hN:X.N.Nodup) (hi:X.N[i]? =some x) (hx:qH X.env.scope x) (hf:X.fn x=true\/X.env.scope.names.lookup x=some .local:=by first|exact .inl rfl|exact .inr rfl|assumption):PG X (.Name x pos) (EF i):=by
 intro pins s σ H v u Q I r h;exact wpAny_assign_Name (EC I hN hi hx r (fun s' I'=>⟨_,H,I',h⟩) hf)
def gNil:qS:=fun vs σ H Q=>vs=[]/\Q σ H
def JF (t:TG) (u:qS):qS:=fun vs σ H Q=> ∃v r,vs=v::r/\t v σ H fun σ' H'=>u r σ' H' Q
def N4:qA X [] gNil:=by
 intro pins s σ H vs us Q I r h;obtain⟨e,h⟩:=h;subst e;cases r;exact assignInOrder_nil ⟨σ,H,I,h⟩
def yr {e:Expr} {es:List Expr} {t:TG} {u:qS} (h1:PG X e t) (h2:qA X es u)
  (hs:(assignEach (e::es) X.env).map (·.2)=assign e X.env::(assignEach es X.env).map (·.2):=by rfl):qA X (e::es) (JF t u):=by
 intro pins s σ H vs us Q I r h;obtain⟨v,vr,e1,h⟩:=h;subst e1;cases r with
 |cons r rr=>
  rw[hs]
  refine assignInOrder_cons (thn (h1 pins s σ H _ _ _ I r h) fun _ s1 ⟨σ1,H1,I1,q1⟩=>?_)
  exact h2 pins s1 σ1 H1 _ _ Q I1 rr q1
def gTup (K:FG) (n:Nat) (t:qS):TG:=fun v σ H Q=> ∃a xs,v=.ref a/\SqT K H a xs/\xs.length=n/\t xs σ H Q
def BX {es:List Expr} {k:Nat} {t:qS} {n:Nat} (hc:X.calm=true) (h:qA X es t)
  (hn:(assignEach es X.env).length=n:=by rfl) (hst:(assignEach es X.env).findIdx? (·.1)=none:=by rfl):PG X (.Tuple es k pos) (gTup X.K n t):=by
 intro pins s σ H v u Q I r hw;obtain⟨a,xs,e1,hq,hl,hw⟩:=hw;subst e1;cases r;obtain⟨its,rv,ht,hz⟩:=I.tuple hq
 refine assign_Tuple_tuple (I.ok.hd hc) ht (by simp[hn,<-hl,rv.length]) hst fun h' hx=>?_
 have I1:Inv X pins σ H {s with heap:=h'}:=I.kept (t':=s.toks) fun b o e=>hx b o (Aq (Af e)) e
 exact h pins _ σ H xs _ Q I1 (by simpa using rv) hw
def gSub (to ti:TE) (t:TSet):TG:=fun v σ H Q=>to σ H fun o H1=>ti σ H1 fun i H2=>t o i v H2 fun H3=>Q σ H3
def DD {o i:Expr} {to ti:TE} {t:TSet} (ho:PE X o to) (hi:PE X i ti) (hs:PSet X t)
  (ha:∀v,assign (.Subscript o i pos) X.env v=(do
   let ov <-holding [v] (eval o X.env)
   let iv <-holding [v,ov] (eval i X.env)
   standAt pos
   holding [v,ov,iv] (setItem ov iv v)
   release [v,ov,iv] []):=by intro _;rfl):PG X (.Subscript o i pos) (gSub to ti t):=by
 intro pins s σ H v u Q I r h;rw[ha]
 refine Ab (Cd (thn (ho pins s σ H _ I h) fun ov s1 ⟨x,H1,I1,r1,q1⟩=>?_))
 refine Ab (Cd (thn (hi pins s1 σ H1 _ I1 q1) fun iv s2 ⟨y,H2,I2,r2,q2⟩=>?_))
 refine Ab (D9 (Ab (Cd (thn (hs pins s2 σ H2 x y v ov iv u _ I2 r1 r2 r q2) fun _ s3 ⟨H3,I3,q3⟩=>?_))))
 exact wpAny_release ⟨σ,H3,I3,q3⟩
def tAsg (te:TE) (g:TG):TS:=fun D σ H=>te σ H fun x H1=>g x σ H1 D.nx
def DE {tg e:Expr} {te:TE} {g:TG} (he:PE X e te) (hg:PG X tg g) (hs:swapsWithSole [tg] e pos.line X.env=pure false:=by rfl) (hw:swappedStores [tg] e X.env=pure none:=by rfl)
  (h1:(assignEach [tg] X.env).map (·.2)=[assign tg X.env]:=by rfl):PS X (.Assign [tg] e pos) (tAsg te g):=by
 intro pins s σ H D I h
 refine wpAny_Assign_stores (thn (he pins s σ H _ I h) fun v s1 ⟨x,H1,I1,r1,q1⟩=>?_) hs hw
 rw[h1];exact thn (hg pins s1 σ H1 x v _ I1 r1 q1) fun _ s2 q=>q
def N5 {i:Nat} {x:Str} {e:Expr} {te:TE} {pos':Pos} (hN:X.N.Nodup) (hi:X.N[i]? =some x) (hx:qH X.env.scope x) (he:PE X e te) (hs:swapsWith e (some (.Name x pos')) pos.line X.env=pure false:=by rfl) (hf:X.fn x=true\/X.env.scope.names.lookup x=some .local:=by first|exact .inl rfl|exact .inr rfl|assumption):
  PS X (.Assign [.Name x pos'] e pos) (tAsg te (EF i)):=by
 intro pins s σ H D I h
 refine wpAny_Assign_Name (thn (he pins s σ H _ I h) fun v s1 ⟨y,H1,I1,r1,q1⟩=>?_) hs
 exact EC I1 hN hi hx r1 (fun s2 I2=>⟨_,H1,I2,q1⟩) hf
def tAug (i:Nat) (te:TE) (ti:TIp):TS:=fun D σ H=> ∃x,σ[i]? =some (some x)/\te σ H fun y H1=>ti x y H1 fun z H2=>D.nx (σ.set i (some z)) H2
def JG {i:Nat} {x:Str} {e:Expr} {te:TE} {op:Operator} {ti:TIp} {pos':Pos} (hN:X.N.Nodup) (hi:X.N[i]? =some x) (hx:qH X.env.scope x) (he:PE X e te) (ho:PIp X op ti) (hf:X.fn x=true\/X.env.scope.names.lookup x=some .local:=by first|exact .inl rfl|exact .inr rfl|assumption):
  PS X (.AugAssign (.Name x pos') op e pos) (tAug i te ti):=by
 intro pins s σ H D I h;obtain⟨v,e1,h⟩:=h;obtain⟨m,hn,hl⟩:=I.loc;have vis:Vis X.env.scope x:=by rcases hx with k|k;exact .inl k;exact .inr (.inl k)
 obtain⟨u,r,l⟩:=hl i x v hi e1 vis
 refine wpAny_AugAssign_Name ?_
 have go:wpAny (model X.prog X.w) X.A (eval e X.env) (fun w s₂=>wpAny (model X.prog X.w) X.A (inplaceOp op u w) (fun r s₃=>wpAny (model X.prog X.w) X.A (storeName X.env x r) (fun _=>SP X pins D .next) X.xe s₃) X.xe s₂) X.xe s:=by
  refine thn (he pins s σ H _ I h) fun w s1 ⟨y,H1,I1,r1,q1⟩=>?_
  refine thn (ho pins s1 σ H1 v y u w _ I1 r r1 q1) fun z s2 ⟨zv,H2,I2,r2,q2⟩=>?_
  exact EC I2 hN hi hx r2 (fun s3 I3=>⟨_,H2,I3,q2⟩) hf
 rcases l with ⟨hk,hm⟩|⟨hk,c,hc,hcell⟩
 .exact wpAny_loadName_local I.ok.kind hk hn hm go
 .rcases hk with hk|hk
  .exact wpAny_loadName_cell I.ok.kind hk hc hcell go
  .rcases hx with k|k
   .have:X.env.scope.names.lookup x=some .free:=hk
    rw[k]at this;cases this
   .have:X.env.scope.names.lookup x=some .free:=hk
    rw[k]at this;cases this
def ipI (f:Int->Int->Int):TIp:=fun x y H Q=> ∃i j,x=.int i/\y=.int j/\Q (.int (f i j)) H
def JH:PIp X .Add (ipI fun i j=>i+j):=by
 intro pins s σ H x y v u Q I r1 r2 h;obtain⟨i,j,e1,e2,q⟩:=h;subst e1;subst e2;obtain⟨t,rfl⟩:=r1;obtain⟨t',rfl⟩:=r2;exact iadd_int ⟨.int _,H,I.tok _,⟨_,rfl⟩,q⟩
end
structure It where
 go:Nat->Hp->Prop
 yld:Nat->Hp->V->Hp->Prop
 stop:Nat->Hp->Prop
def yo (X:Cx) (pins:AL) (H:Hp) (b:Addr):Prop:=
 H b=none/\b≠X.env.locals/\b∉X.fs/\(b∈X.ex\/X.s₀.heap.objs.size<=b)/\(∀x c,X.env.cells.lookup x=some c->c≠b)/\∀p∈X.pn++pins,p.1≠b
def Inv.fpOk {X:Cx} {pins:AL} {σ:St} {H H':Hp} {s:Shared} {b:Addr} (I:Inv X pins σ H s) (hb:s.heap.objs.size<=b) (hn:H' b=none):yo X pins H' b:=by
 refine⟨hn,Ci (Ay I.lt hb),I.nofs hb,.inr (Bi I.sz hb),fun x c e z=>?_,fun p hp z=>?_⟩
 .obtain⟨v,q⟩:=I.cell x c e
  exact absurd (Ay q.lt (by rw[z];exact hb)) (Bn _)
 .exact absurd (Ay (Af (I.pin p hp).1) (by rw[z];exact hb)) (Bn _)
structure Turn (P:Program) (w:World) (K:FG) (tg:Expr) (J:It) (fp:List Addr) (it:Addr) (tn:Nat->Heap->Prop):Prop where
 mem:it∈fp
 obj:∀i h,tn i h->∀b∈fp,∃o,h.get? b=some o/\∀v,o.data≠ .cell v
 keep:∀i h h',tn i h->(∀b∈fp,∀o,h.get? b=some o->h'.get? b=some o)->tn i h'
 item:∀(X:Cx),X.prog=P->X.w=w->X.K=K->X.calm=true->∀(i:Nat) (pins:AL) (s:Shared) (σ:St) (H:Hp) (E:VP),Inv X pins σ H s->(∀b∈fp,yo X pins H b)->tn i s.heap->J.go i H->
  wpAny (model P w) X.A (pyNext (.ref it)) (fun r s1=> ∃u,r=some u/\
   wpAny (model P w) X.A (letOwnedTupleGo tg (.ref it) u) (fun _ s2=> ∃x H',Inv X pins σ H' s2/\RelV x u/\J.yld i H x H'/\tn (i+1) s2.heap/\∀b∈fp,H' b=none) E s1) E s
 done:∀(X:Cx),X.prog=P->X.w=w->X.K=K->X.calm=true->∀(i:Nat) (pins:AL) (s:Shared) (σ:St) (H:Hp) (E:VP),Inv X pins σ H s->(∀b∈fp,yo X pins H b)->tn i s.heap->J.stop i H->
  wpAny (model P w) X.A (pyNext (.ref it)) (fun r s1=>r=none/\Inv X pins σ H s1) E s
 self:∀(A:Around) (i:Nat) (s:Shared) (Q:VP) (E:VP),tn i s.heap->Q (.ref it) s->wpAny (model P w) A (pyIter (.ref it)) Q E s
abbrev TI:=St->Hp->(It->Hp->Prop)->Prop
def PIE (X:Cx) (pins:AL) (σ:St) (tg:Expr) (R:It->Hp->Prop) (itv:Value) (s2:Shared):Prop:=
 ∃(it:Addr) (fp:List Addr) (tn:Nat->Heap->Prop) (J:It) (H':Hp),itv=.ref it/\Inv X pins σ H' s2/\Turn X.prog X.w X.K tg J fp it tn/\tn 0 s2.heap/\(∀b∈fp,yo X pins H' b)/\R J H'
def PI (X:Cx) (tg iter:Expr) (wi:TI):Prop:=
 ∀(pins:AL) (s:Shared) (σ:St) (H:Hp) (R:It->Hp->Prop),Inv X pins σ H s->wi σ H R->
  wpAny (model X.prog X.w) X.A (eval iter X.env) (fun v s1=>wpAny (model X.prog X.w) X.A (pyIter v) (PIE X pins σ tg R) X.xe s1) X.xe s
def EG {M:Model} {A:Around} {E:VP} {s:Shared} {tg:Expr} {it:Addr} {u:Value} {o:Obj} {n:String} {vs:Array Value} {Q:Unit->Shared->Prop} (ho:s.heap.get? it=some o) (hc:o.cls=.type n) (hd:o.data=.fields vs)
    (hn:["enumerate","zip","dict_itemiterator","dict_reverseitemiterator","odict_iterator","itertools.zip_longest","itertools.pairwise"].contains n=false) (hQ:Q () s):wpAny M A (letOwnedTupleGo tg (.ref it) u) Q E s:=by
  unfold letOwnedTupleGo;cases tg<;>first
    |exact Ad hQ
    | (cases u<;>first
        |exact Ad hQ
        | (refine Ab (wpAny_load ho ?_)
           rw[hc,hd];show wpAny M A (if (["enumerate","zip","dict_itemiterator","dict_reverseitemiterator","odict_iterator","itertools.zip_longest","itertools.pairwise"].contains n && vs[0]? ==some (rawInt _))=true then _ else _) Q E s
           rw[Ac (by intro h;rw[hn,Cv]at h;cases h)]
           exact Ad hQ))
def Itl (K:FG) (a:Addr):It:=
 ⟨fun i H=> ∃xs x,SqL K H a xs/\xs[i]? =some x,fun i H x H'=>H'=H/\∀xs,SqL K H a xs->xs[i]? =some x,fun i H=> ∃xs,SqL K H a xs/\xs.length<=i⟩
def Itt (K:FG) (a:Addr):It:=
 ⟨fun i H=> ∃xs x,SqT K H a xs/\xs[i]? =some x,fun i H x H'=>H'=H/\∀xs,SqT K H a xs->xs[i]? =some x,fun i H=> ∃xs,SqT K H a xs/\xs.length<=i⟩
def Itr (lo:Int) (n:Nat):It:=⟨fun i _=>i<n,fun i H x H'=>H'=H/\x=.int (lo+i),fun i _=>n<=i⟩
def JI {P:Program} {w:World} {K:FG} {tg:Expr} (a it:Addr):Turn P w K tg (Itl K a) [it] it (fun i h=>h.IsListIter it a i) where
 mem:=by simp
 obj:=fun i h st b hb=>by
  have e:b=it:=by simpa using hb
  subst e;obtain⟨o,e,c,d⟩:=st;exact⟨o,e,fun v z=>by rw[d]at z;cases z⟩
 keep:=fun i h h' st k=>st.at fun o e=>k it (by simp) o e
 item:=by
  intro X hP hw hK hc i pins s σ H E I hf st hg;subst hP hw hK;obtain⟨xs,x,hq,hx⟩:=hg;obtain⟨its,rv,p,hz⟩:=I.list hq;obtain⟨u,hu,ru⟩:=rv.get hx;obtain⟨f0,f1,f2,f3,f4,f5⟩:=hf it (by simp)
  refine wpAny_pyNext_list_item st p.isList (x:=u) (by simpa using hu) fun h' st' sb=>?_
  have I1:Inv X pins σ H {s with heap:=h'}:=I.turned (t':=s.toks) (fun b o hb e=>(sb.2 b hb).trans e) f0 f1 f3 f4 f5
  obtain⟨o,e,c,d⟩:=id st';exact⟨u,rfl,EG (s:={s with heap:=h'}) e c d (by decide) ⟨x,H,I1,ru,⟨rfl,fun ys hy=>by rw[I.list_inj hy hq];exact hx⟩,st',fun b hb=>(hf b hb).1⟩⟩
 done:=by
  intro X hP hw hK hc i pins s σ H E I hf st hg;subst hP hw hK;obtain⟨xs,hq,hx⟩:=hg;obtain⟨its,rv,p,hz⟩:=I.list hq;obtain⟨f0,f1,f2,f3,f4,f5⟩:=hf it (by simp)
  have hl:=rv.length;exact wpAny_pyNext_list_end (I.ok.hd hc) st p.isList (by simp;lia) fun h' eb=>⟨rfl,I.turned (t':=s.toks) (fun b o hb e=>eb b o hb e) f0 f1 f3 f4 f5⟩
 self:=fun _ _ _ _ _ st h=>wpAny_pyIter_listiter st h
def N6 {P:Program} {w:World} {K:FG} {tg:Expr} (a it:Addr):Turn P w K tg (Itt K a) [it] it (fun i h=>h.IsTupleIter it a i) where
 mem:=by simp
 obj:=fun i h st b hb=>by
  have e:b=it:=by simpa using hb
  subst e;obtain⟨o,e,c,d⟩:=st;exact⟨o,e,fun v z=>by rw[d]at z;cases z⟩
 keep:=fun i h h' st k=>st.at fun o e=>k it (by simp) o e
 item:=by
  intro X hP hw hK hc i pins s σ H E I hf st hg;subst hP hw hK;obtain⟨xs,x,hq,hx⟩:=hg;obtain⟨its,rv,p,hz⟩:=I.tuple hq;obtain⟨u,hu,ru⟩:=rv.get hx;obtain⟨f0,f1,f2,f3,f4,f5⟩:=hf it (by simp)
  refine wpAny_pyNext_tuple_item st (show s.heap.IsTuple a its.toArray from p) (x:=u) (by simpa using hu) fun h' st' sb=>?_
  have I1:Inv X pins σ H {s with heap:=h'}:=I.turned (t':=s.toks) (fun b o hb e=>(sb.2 b hb).trans e) f0 f1 f3 f4 f5
  obtain⟨o,e,c,d⟩:=id st';exact⟨u,rfl,EG (s:={s with heap:=h'}) e c d (by decide) ⟨x,H,I1,ru,⟨rfl,fun ys hy=>by rw[I.tuple_inj hy hq];exact hx⟩,st',fun b hb=>(hf b hb).1⟩⟩
 done:=by
  intro X hP hw hK hc i pins s σ H E I hf st hg;subst hP hw hK;obtain⟨xs,hq,hx⟩:=hg;obtain⟨its,rv,p,hz⟩:=I.tuple hq;obtain⟨f0,f1,f2,f3,f4,f5⟩:=hf it (by simp)
  have hl:=rv.length;exact wpAny_pyNext_tuple_end (I.ok.hd hc) st (show s.heap.IsTuple a its.toArray from p) (by simp;lia) fun h' eb=>⟨rfl,I.turned (t':=s.toks) (fun b o hb e=>eb b o hb e) f0 f1 f3 f4 f5⟩
 self:=fun _ _ _ _ _ st h=>wpAny_pyIter_tupleiter st h
def N7 {P:Program} {w:World} {K:FG} {tg:Expr} (it:Addr) (lo:Int) (n:Nat):Turn P w K tg (Itr lo n) [it] it (fun i h=>IsRangeIter h it (lo+(i:Nat)*1) ((n:Int)-(i:Nat)) 1) where
 mem:=by simp
 obj:=fun i h st b hb=>by
  have e:b=it:=by simpa using hb
  subst e;exact⟨_,st,fun v z=>by
   have z':Data.fields _=Data.cell v:=z;cases z'⟩
 keep:=fun i h h' st k=>k it (by simp) _ st
 item:=by
  intro X hP hw hK hc i pins s σ H E I hf st hg;subst hP hw hK;obtain⟨f0,f1,f2,f3,f4,f5⟩:=hf it (by simp)
  have W:=Walks.range (prog:=X.prog) (w:=X.w) (I.ok.hd hc) it lo 1 n
  refine W.item i s _ _ hg st fun v h' tk hv st' kk=>?_
  obtain⟨t,rfl⟩:=hv;have I1:Inv X pins σ H {s with heap:=h',toks:=tk}:=I.turned (fun b o hb e=>kk b o (by simpa using hb) e) f0 f1 f3 f4 f5
  refine⟨_,rfl,EG (s:={s with heap:=h',toks:=tk}) (n:="range_iterator") st' rfl rfl (by decide) ⟨.int (lo+i),H,I1,⟨t,?_⟩,⟨rfl,rfl⟩,st',fun b hb=>(hf b hb).1⟩⟩
  rw[Int.mul_one]
 done:=by
  intro X hP hw hK hc i pins s σ H E I hf st hg;subst hP hw hK;obtain⟨f0,f1,f2,f3,f4,f5⟩:=hf it (by simp)
  exact wpAny_pyNext_range_end (I.ok.hd hc) st (by have:n<=i:=hg;lia) fun h' eb=>⟨rfl,I.turned (t':=s.toks) (fun b o hb e=>eb b o hb e) f0 f1 f3 f4 f5⟩
 self:=fun _ _ _ _ _ st h=>wpAny_pyIter_rangeiter st h
section
variable {X:Cx} {tg:Expr}
def N8 (K:FG) (tl:TE):TI:=fun σ H R=>tl σ H fun x H1=> ∃a,x=.ref a/\(∃xs,SqL K H1 a xs)/\R (Itl K a) H1
def N9 {l:Expr} {tl:TE} (hl:PE X l tl):PI X tg l (N8 X.K tl):=by
 intro pins s σ H R I h
 refine thn (hl pins s σ H _ I h) fun v s1 ⟨x,H1,I1,r1,q1⟩=>?_
 obtain⟨a,e,⟨xs,hq⟩,q⟩:=q1;subst e;cases r1;obtain⟨its,rv,p,hz⟩:=I1.list hq
 refine Dn p.isList ?_
 refine⟨s1.heap.objs.size,[s1.heap.objs.size],_,_,H1,rfl,I1.kept (t':=s1.toks) fun b o e=>Ao _ e,JI a _,⟨_,A6 _ rfl,rfl,rfl⟩,fun b hb=>?_,q⟩
 have e:b=s1.heap.objs.size:=by simpa using hb
 subst e;exact I1.fpOk (Ag _) (I1.hok.fresh (Ag _))
def JJ {pins:AL} {σ:St} {H:Hp} {s:Shared} {R:It->Hp->Prop} {E:VP} {lo hi:Int} {t u v:Tok} {tk:Nat} (I:Inv X pins σ H s) (h1: -(2 ^ 62)<=lo) (h2:lo<2 ^ 62) (h3: -(2 ^ 62)<=hi) (h4:hi<2 ^ 62)
  (q:R (Itr lo (hi-lo).toNat) H):wpAny (model X.prog X.w) X.A (pyIter (.ref s.heap.objs.size)) (PIE X pins σ tg R) E {s with heap:=s.heap.push {cls:= .type "range",data:= .fields #[.int lo t,.int hi u,.int 1 v]},toks:=tk}:=by
 refine wpAny_pyIter_range (IsRange.new ..) (small_one h1 h2 h3 h4) ?_
 have I1:Inv X pins σ H {s with heap:=s.heap.push {cls:= .type "range",data:= .fields #[.int lo t,.int hi u,.int 1 v]},toks:=tk}:=I.kept fun b o e=>Ao _ e
 refine⟨(s.heap.push {cls:= .type "range",data:= .fields #[.int lo t,.int hi u,.int 1 v]}).objs.size,[(s.heap.push {cls:= .type "range",data:= .fields #[.int lo t,.int hi u,.int 1 v]}).objs.size],_,_,H,rfl,
  I1.kept (t':=tk) fun b o e=>Ao _ e,N7 _ lo (hi-lo).toNat,?_,fun b hb=>?_,q⟩
 .have e1:lo+((0:Nat):Int)*1=lo:=by simp
  have e2:(((hi-lo).toNat:Nat):Int)-((0:Nat):Int)=Builtin.Range.rangeSize lo hi 1:=by rw[rangeSize_one];split<;>lia
  show IsRangeIter _ _ (lo+((0:Nat):Int)*1) ((((hi-lo).toNat:Nat):Int)-((0:Nat):Int)) 1;rw[e1,e2];exact A6 _ rfl
 .have e:b=(s.heap.push {cls:= .type "range",data:= .fields #[.int lo t,.int hi u,.int 1 v]}).objs.size:=by simpa using hb
  subst e;exact I1.fpOk (Ag _) (I1.hok.fresh (Ag _))
def NA (ta:TA):TI:=fun σ H R=>ta σ H fun vs H1=> ∃j:Int,vs=[.int j]/\ -(2 ^ 62)<=j/\j<2 ^ 62/\R (Itr 0 j.toNat) H1
def NB (ta:TA):TI:=fun σ H R=>ta σ H fun vs H1=> ∃i j:Int,vs=[.int i,.int j]/\(-(2 ^ 62)<=i/\i<2 ^ 62/\ -(2 ^ 62)<=j/\j<2 ^ 62)/\R (Itr i (j-i).toNat) H1
def NC {a:Expr} {ta:TA} {p pos:Pos} (hg:Gl X "range") (hm:X.mg "range" =none) (ha:PA X [a] ta) (hs:starEach [a] X.env=[(false,eval a X.env)]:=by rfl):PI X tg (.Call (.Name "range" p) [a] [] pos) (NA ta):=by
 intro pins s σ H R I h
 refine Call_ (AM I hg hm boot_range (Do (thn (ha pos pins s σ H _ I h) fun us s1 ⟨vs,H1,I1,r1,q1⟩=>?_) hs rfl))
 obtain⟨j,e,q1,q2,q⟩:=q1;subst e;cases r1 with
 |cons r rr=>
  cases rr;obtain⟨t,rfl⟩:=r;exact call_range_1 (JJ I1 (by lia) (by lia) q1 q2 (by simpa using q))
def ND {a b:Expr} {ta:TA} {p pos:Pos} (hg:Gl X "range") (hm:X.mg "range" =none) (ha:PA X [a,b] ta) (hs:starEach [a,b] X.env=[(false,eval a X.env),(false,eval b X.env)]:=by rfl) (hs2:starEach [b] X.env=[(false,eval b X.env)]:=by rfl):
  PI X tg (.Call (.Name "range" p) [a,b] [] pos) (NB ta):=by
 intro pins s σ H R I h
 refine Call_ (AM I hg hm boot_range (Do (thn (ha pos pins s σ H _ I h) fun us s1 ⟨vs,H1,I1,r1,q1⟩=>?_) (by rw[hs,hs2]) (by rw[hs2];rfl)))
 obtain⟨i,j,e,⟨q1,q2,q3,q4⟩,q⟩:=q1;subst e;cases r1 with
 |cons r rr=>
  cases rr with
  |cons r' rr=>
   cases rr;obtain⟨t,rfl⟩:=r;obtain⟨t',rfl⟩:=r';exact call_range_2 (JJ I1 q1 q2 q3 q4 q)
def tFor (wi:TI) (g:TG) (tb:TS):TS:=fun D σ H=>wi σ H fun J H1=> ∃W:Nat->Nat->St->Hp->Prop,(∃m,W 0 m σ H1)/\∀i m σ H,W i m σ H->
 (J.stop i H/\D.nx σ H)\/(J.go i H/\∃N:St->Hp->Prop,(∀σ' H',N σ' H'->∃m',m' < m/\W (i+1) m' σ' H')/\∀x H',J.yld i H x H'->g x σ H' fun σ2 H2=>tb {D with nx:=N,ct:=N,bk:=D.nx} σ2 H2)
def EH (fp:List Addr) (h:Heap):AL:=fp.filterMap fun b=>(h.get? b).map fun o=>(b,o)
def Gs {fp:List Addr} {h:Heap} {b:Addr} {o:Obj} (hb:b∈fp) (e:h.get? b=some o):(b,o)∈EH fp h:=Ea.mpr ⟨b,hb,by rw[e];rfl⟩
def NF {fp:List Addr} {h:Heap} {p:Addr×Obj} (hp:p∈EH fp h):p.1∈fp/\h.get? p.1=some p.2:=by
 obtain⟨b,hb,e⟩:=Ea.mp hp;cases q:h.get? b with
 |none=>rw[q]at e;cases e
 |some o=>
  rw[q]at e;have e':(b,o)=p:=Option.some.inj e;subst e';exact⟨hb,q⟩
def Inv.pinned {pins:AL} {σ:St} {H:Hp} {s:Shared} {fp:List Addr} (I:Inv X pins σ H s) (hf:∀b∈fp,yo X pins H b) (ho:∀b∈fp,∃o,s.heap.get? b=some o/\∀v,o.data≠ .cell v):Inv X (pins++EH fp s.heap) σ H s:=
 I.pins_of fun p hp=>(Aw.mp hp).elim (fun z=>I.pin p (Br _ z)) fun z=>by
  obtain⟨hb,e⟩:=NF z;obtain⟨f0,f1,f2,_⟩:=hf p.1 hb;obtain⟨o,e',d⟩:=ho p.1 hb;rw[e]at e';cases e';exact⟨e,f0,f1,f2,d⟩
def Inv.unpinned {pins pl:AL} {σ:St} {H:Hp} {s:Shared} (I:Inv X (pins++pl) σ H s):Inv X pins σ H s:=I.pins_of fun p hp=>I.pin p (Br _ (Cu _ hp))
def NG {iter:Expr} {body:List Stmt} {wi:TI} {g:TG} {tb:TS} {pos:Pos} (hp:PassesOwn (model X.prog X.w) X.A X.env X.xe) (hc:X.calm=true) (hi:PI X tg iter wi) (hg:PG X tg g) (hb:yj X body tb)
  (hs:∀x,foldedSetIterable iter X.env x=pure x:=by intro _;rfl):PS X (.For tg iter body [] pos) (tFor wi g tb):=by
 intro pins s σ H D I h
 refine wpAny_For (thn (hi pins s σ H _ I h) fun v s1 h1=>thn h1 fun itv s2 h2=>?_) hs
 obtain⟨it,fp,tn,J,H2,e,I2,T,st2,f2,W,⟨m0,w0⟩,turn⟩:=h2;subst e;have stat:∀{H':Hp},(∀b∈fp,H' b=none)->∀b∈fp,yo X pins H' b:=fun hn b hb=>⟨hn b hb,(f2 b hb).2⟩
 refine codeAny_forLoop_any (fun n s'=> ∃i σ' H',Inv X pins σ' H' s'/\tn i s'.heap/\(∀b∈fp,H' b=none)/\W i n σ' H') ?_ m0 ⟨0,σ,H2,I2,st2,fun b hb=>(f2 b hb).1,w0⟩
 rintro n s3 ⟨i,σ3,H3,I3,st3,fr3,w3⟩
 rcases turn i n σ3 H3 w3 with ⟨stop,qn⟩|⟨go,N,hN,step⟩
 .refine Eb hp (thn (T.done X rfl rfl rfl hc i pins s3 σ3 H3 X.xe I3 (stat fr3) st3 stop) fun r s4 ⟨hr,I4⟩=>?_)
  subst hr;exact wpAny_execs_nil ⟨σ3,H3,I4,qn⟩
 .refine Eb hp (thn (T.item X rfl rfl rfl hc i pins s3 σ3 H3 X.xe I3 (stat fr3) st3 go) fun r s4 ⟨u,hr,h4⟩=>?_)
  subst hr
  refine Eb hp (thn h4 fun _ s5 ⟨x,H5,I5,r5,y5,st5,fr5⟩=>?_)
  have I5':=I5.pinned (stat fr5) (T.obj _ _ st5)
  refine Eb hp (thn (hg _ s5 σ3 H5 x u _ I5' r5 (step x H5 y5)) fun _ s6 ⟨σ6,H6,I6,q6⟩=>?_)
  refine Eb hp (thn (hb _ s6 σ6 H6 _ I6 q6) fun f s7 q7=>?_)
  have again:∀{σ7:St} {H7:Hp},Inv X (pins++EH fp s5.heap) σ7 H7 s7->N σ7 H7->∃m,m<n/\∃i σ' H',Inv X pins σ' H' s7/\tn i s7.heap/\(∀b∈fp,H' b=none)/\W i m σ' H':=fun {σ7 H7} I7 n7=>by
   obtain⟨m',hm,w7⟩:=hN σ7 H7 n7
   refine⟨m',hm,i+1,σ7,H7,I7.unpinned,T.keep _ _ _ st5 fun b hb o e=>(I7.pin (b,o) (Br _ (Br _ (Gs hb e)))).1,fun b hb=>?_,w7⟩
   obtain⟨o,e,d⟩:=T.obj _ _ st5 b hb;exact (I7.pin (b,o) (Br _ (Br _ (Gs hb e)))).2.1
  cases f with
  |next=>obtain⟨σ7,H7,I7,n7⟩:=q7;exact again I7 n7
  |cont=>obtain⟨σ7,H7,I7,n7⟩:=q7;exact again I7 n7
  |brk=>obtain⟨σ7,H7,I7,q7⟩:=q7;exact⟨σ7,H7,I7.unpinned,q7⟩
  |ret v=>obtain⟨x7,σ7,H7,I7,r7,q7⟩:=q7;exact⟨x7,σ7,H7,I7.unpinned,r7,q7⟩
end
abbrev R2:=V->V->Hp->VK->Prop
def OpR (X:Cx) (f:Value->Value->Sem Value) (r:R2):Prop:=
 ∀(pins:AL) (s:Shared) (σ:St) (H:Hp) (x y:V) (v u:Value) (Q:VK),Inv X pins σ H s->RelV x v->RelV y u->r x y H Q->
  wpAny (model X.prog X.w) X.A (f v u) (EP X pins σ Q) X.xe s
def UnR (X:Cx) (f:Value->Sem Value) (r:V->Hp->VK->Prop):Prop:=
 ∀(pins:AL) (s:Shared) (σ:St) (H:Hp) (x:V) (v:Value) (Q:VK),Inv X pins σ H s->RelV x v->r x H Q->
  wpAny (model X.prog X.w) X.A (f v) (EP X pins σ Q) X.xe s
def yy (X:Cx) (f:Value) (r:List V->Hp->VK->Prop):Prop:=
 ∀(pins:AL) (s:Shared) (σ:St) (H:Hp) (xs:List V) (us:List Value) (Q:VK),Inv X pins σ H s->Vals xs us->r xs H Q->
  wpAny (model X.prog X.w) X.A (call f us) (EP X pins σ Q) X.xe s
def TruR (X:Cx) (r:V->Hp->(Bool->Hp->Prop)->Prop):Prop:=
 ∀(pins:AL) (s:Shared) (σ:St) (H:Hp) (x:V) (v:Value) (Q:Bool->Hp->Prop),Inv X pins σ H s->RelV x v->r x H Q->
  wpAny (model X.prog X.w) X.A (truthy v) (TP X pins σ Q) X.xe s
def tOp (r:R2) (ta tb:TE):TE:=fun σ H Q=>ta σ H fun x H1=>tb σ H1 fun y H2=>r x y H2 Q
def tUn (r:V->Hp->VK->Prop) (ta:TE):TE:=fun σ H Q=>ta σ H fun x H1=>r x H1 Q
def rI (C:Int->Int->Prop) (g:Int->Int->V):R2:=fun x y H Q=> ∃i j,x=.int i/\y=.int j/\C i j/\Q (g i j) H
def yS (g:Int->Int->V):R2:=fun x y H Q=> ∃i j,x=.int i/\y=.int j/\Q (g i j) H
def rU (g:Int->V):V->Hp->VK->Prop:=fun x H Q=> ∃i,x=.int i/\Q (g i) H
section
variable {X:Cx} {a b c:Expr} {ta tb tc:TE} {pos:Pos}
def binT (ha:PE X a ta) (hb:PE X b tb) {pins:AL} {s:Shared} {σ:St} {H:Hp} {R:V->V->Hp->Prop} (I:Inv X pins σ H s)
  (h:ta σ H fun x H1=>tb σ H1 fun y H2=>R x y H2) {Q:VP} {f:Value->Value->Sem Value}
  (hf:∀v u s2 x y H2,Inv X pins σ H2 s2->RelV x v->RelV y u->R x y H2->wpAny (model X.prog X.w) X.A (f v u) Q X.xe s2):
  wpAny (model X.prog X.w) X.A (eval a X.env) (fun v s₁=>wpAny (model X.prog X.w) X.A (eval b X.env) (fun u s₂=>wpAny (model X.prog X.w) X.A (f v u) Q X.xe s₂) X.xe s₁) X.xe s:=by
 refine thn (ha pins s σ H _ I h) fun v s1 ⟨x,H1,I1,r1,q1⟩=>?_
 refine thn (hb pins s1 σ H1 _ I1 q1) fun u s2 ⟨y,H2,I2,r2,q2⟩=>?_
 exact hf v u s2 x y H2 I2 r1 r2 q2
def NH {op:Operator} {r:R2} (ho:OpR X (binaryOp op) r) (ha:PE X a ta) (hb:PE X b tb):PE X (.BinOp a op b pos) (tOp r ta tb):=by
 intro pins s σ H Q I h;exact wpAny_BinOp (binT ha hb I h fun v u s2 x y H2 I2 rx ry q=>ho pins s2 σ H2 x y v u Q I2 rx ry q)
def NI {op:UnaryOp} {r:V->Hp->VK->Prop} (ho:UnR X (unaryOp op) r) (ha:PE X a ta):PE X (.UnaryOp op a pos) (tUn r ta):=by
 intro pins s σ H Q I h;exact UnaryOp_ (thn (ha pins s σ H _ I h) fun v s1 ⟨x,H1,I1,r1,q1⟩=>ho pins s1 σ H1 x v Q I1 r1 q1)
def opI {f:Value->Value->Sem Value} {C:Int->Int->Prop} {g:Int->Int->Int}
  (rule:∀(i j:Int) (t u:Tok) (s:Shared) (Q:VP) (E:VP),C i j->Q (.int (g i j) s.toks) {s with toks:=s.toks+1}->wpAny (model X.prog X.w) X.A (f (.int i t) (.int j u)) Q E s):
  OpR X f (rI C fun i j=>.int (g i j)):=by
 intro pins s σ H x y v u Q I rx ry h;obtain⟨i,j,rfl,rfl,hc,q⟩:=h;obtain⟨t,rfl⟩:=rx;obtain⟨t',rfl⟩:=ry;exact rule i j t t' s _ _ hc ⟨.int (g i j),H,I.tok _,⟨_,rfl⟩,q⟩
def opI0 {f:Value->Value->Sem Value} {g:Int->Int->Int}
  (rule:∀(i j:Int) (t u:Tok) (s:Shared) (Q:VP) (E:VP),Q (.int (g i j) s.toks) {s with toks:=s.toks+1}->wpAny (model X.prog X.w) X.A (f (.int i t) (.int j u)) Q E s):
  OpR X f (yS fun i j=>.int (g i j)):=by
 intro pins s σ H x y v u Q I rx ry h;obtain⟨i,j,rfl,rfl,q⟩:=h;obtain⟨t,rfl⟩:=rx;obtain⟨t',rfl⟩:=ry;exact rule i j t t' s _ _ ⟨.int (g i j),H,I.tok _,⟨_,rfl⟩,q⟩
def opB0 {f:Value->Value->Sem Value} {g:Int->Int->Bool}
  (rule:∀(i j:Int) (t u:Tok) (s:Shared) (Q:VP) (E:VP),Q (.bool (g i j)) s->wpAny (model X.prog X.w) X.A (f (.int i t) (.int j u)) Q E s):
  OpR X f (yS fun i j=>.bl (g i j)):=by
 intro pins s σ H x y v u Q I rx ry h;obtain⟨i,j,rfl,rfl,q⟩:=h;obtain⟨t,rfl⟩:=rx;obtain⟨t',rfl⟩:=ry;exact rule i j t t' s _ _ ⟨.bl (g i j),H,I,rfl,q⟩
def CDiv (i j:Int):Prop:=0<j/\j<1073741824
def CPow (i j:Int):Prop:=0<=j/\j<=1000000/\i.natAbs<2 ^ 64
def CMul (i j:Int):Prop:=(-(2 ^ 64)<i/\i<2 ^ 64)\/(-(2 ^ 64)<j/\j<2 ^ 64)
def CMul.ok {i j:Int} (h:CMul i j):IntMulOk i j:=by
 rcases h with ⟨h1,h2⟩|⟨h1,h2⟩
 .exact .of_left (intBits_le_64 h1 h2)
 .exact .of_right (intBits_le_64 h1 h2)
def op_add:OpR X (binaryOp .Add) (yS fun i j=>.int (i+j)):=opI0 fun _ _ _ _ _ _ _ q=>add_int q
def qK:OpR X (binaryOp .Sub) (yS fun i j=>.int (i-j)):=opI0 fun _ _ _ _ _ _ _ q=>sub_int q
def op_mul:OpR X (binaryOp .Mult) (rI CMul fun i j=>.int (i*j)):=opI fun _ _ _ _ _ _ _ hc q=>mul_int q hc.ok
def yK:OpR X (binaryOp .Mod) (rI (fun _ j=>0<j) fun i j=>.int (i%j)):=opI fun i j _ _ _ _ _ hc q=>by
 have h1:(0:Int)<j:=hc;exact mod_int' (by lia) (by rw[Int.fmod_eq_emod_of_nonneg i (by lia)];exact q)
def unI {f:Value->Sem Value} {g:Int->Int}
  (rule:∀(i:Int) (t:Tok) (s:Shared) (Q:VP) (E:VP),Q (.int (g i) s.toks) {s with toks:=s.toks+1}->wpAny (model X.prog X.w) X.A (f (.int i t)) Q E s):
  UnR X f (rU fun i=>.int (g i)):=by
 intro pins s σ H x v Q I rx h;obtain⟨i,rfl,q⟩:=h;obtain⟨t,rfl⟩:=rx;exact rule i t s _ _ ⟨.int (g i),H,I.tok _,⟨_,rfl⟩,q⟩
def NJ:UnR X (unaryOp .USub) (rU fun i=>.int (-i)):=unI fun _ _ _ _ _ q=>neg_int q
end
section
variable {X:Cx} {a b c:Expr} {ta tb tc:TE} {pos:Pos}
def NK {pins:AL} {σ:St} {H:Hp} {s:Shared} {Q:VK} {k k':Bool} (I:Inv X pins σ H s) (q:Q (.bl k) H) (e:k=k'):EP X pins σ Q (.bool k') s:=by
 subst e;exact⟨.bl k,H,I,rfl,q⟩
def DF:OpR X (compareOp .Lt) (yS fun i j=>.bl (decide (i<j))):=opB0 fun _ _ _ _ _ _ _ q=>lt_int q
def qz:OpR X (compareOp .LtE) (yS fun i j=>.bl (decide (i<=j))):=opB0 fun _ _ _ _ _ _ _ q=>le_int q
def Gu:OpR X (compareOp .Gt) (yS fun i j=>.bl (decide (j<i))):=opB0 fun _ _ _ _ _ _ _ q=>gt_int q
def NL:OpR X (compareOp .GtE) (yS fun i j=>.bl (decide (j<=i))):=opB0 fun _ _ _ _ _ _ _ q=>ge_int q
def JK:OpR X (compareOp .In) (fun x y H Q=> ∃i j,x=.str i/\y=.str j/\Q (.bl (!(Builtin.Str.occurrences j i 0 j.length 1).isEmpty)) H):=by
 intro pins s σ H x y v u Q I rx ry h;obtain⟨i,j,rfl,rfl,q⟩:=h;obtain⟨t,rfl⟩:=rx;obtain⟨t',rfl⟩:=ry;exact in_str (NK I q rfl)
def OpR.or {f:Value->Value->Sem Value} {r r':R2} (h:OpR X f r) (h':OpR X f r'):OpR X f (fun x y H Q=>r x y H Q\/r' x y H Q):=by
 intro pins s σ H x y v u Q I rx ry q
 rcases q with q|q
 .exact h pins s σ H x y v u Q I rx ry q
 .exact h' pins s σ H x y v u Q I rx ry q
def z5 (b:Expr) {op:CmpOp} (h:op≠ .In:=by decide) (h2:op≠ .NotIn:=by decide):behindInMarks op b=false:=by
 have e1:(op==CmpOp.In)=false:=by cases op<;>first|rfl|exact absurd rfl h
 have e2:(op==CmpOp.NotIn)=false:=by cases op<;>first|rfl|exact absurd rfl h2
 cases b<;>simp[behindInMarks,e1,e2]
def NM {op:CmpOp} {r:R2} (ho:OpR X (compareOp op) r) (ha:PE X a ta) (hb:PE X b tb) (hm:behindInMarks op b=false):PE X (.Compare a [op] [b] pos) (tOp r ta tb):=by
 intro pins s σ H Q I h;exact wpAny_Compare1 (binT ha hb I h fun v u s2 x y H2 I2 rx ry q=>ho pins s2 σ H2 x y v u Q I2 rx ry q) hm
def JL (t:TE):TT:=fun σ H Q=>t σ H fun x H'=> ∃k,x=.bl k/\Q k H'
def NN {op:CmpOp} {r:R2} (ho:OpR X (compareOp op) r) (ha:PE X a ta) (hb:PE X b tb) (hm:behindInMarks op b=false):PT X (.Compare a [op] [b] pos) (JL (tOp r ta tb)):=by
 intro pins s σ H Q I h
 refine wpAny_isTrue_Compare1 (thn (ha pins s σ H _ I h) fun v s1 ⟨x,H1,I1,r1,q1⟩=>thn (hb pins s1 σ H1 _ I1 q1) fun u s2 ⟨y,H2,I2,r2,q2⟩=>
  thn (ho pins s2 σ H2 x y v u _ I2 r1 r2 q2) fun c s3 ⟨z,H3,I3,r3,k,e,q3⟩=>?_) hm
 subst e;cases r3;exact Cb ⟨H3,I3,q3⟩
def Ht (r r':R2) (ta tb tc:TE):TE:=fun σ H Q=>ta σ H fun x H1=>tb σ H1 fun y H2=>r x y H2 fun z H3=> ∃k,z=.bl k/\
 (if k=true then tc σ H3 fun w' H4=>r' y w' H4 Q else Q (.bl false) H3)
def NO {op op':CmpOp} {r r':R2} (ho:OpR X (compareOp op) r) (ho':OpR X (compareOp op') r') (ha:PE X a ta) (hb:PE X b tb) (hc:PE X c tc)
  (hm:lastMarks [op,op'] [b,c]=false:=by with_unfolding_all rfl):PE X (.Compare a [op,op'] [b,c] pos) (Ht r r' ta tb tc):=by
 intro pins s σ H Q I h
 refine Compare_chain (thn (ha pins s σ H _ I h) fun v s1 ⟨x,H1,I1,r1,q1⟩=>chain_link (thn (hb pins s1 σ H1 _ I1 q1) fun u s2 ⟨y,H2,I2,r2,q2⟩=>
  thn (ho pins s2 σ H2 x y v u _ I2 r1 r2 q2) fun d s3 ⟨z,H3,I3,r3,k,e,q3⟩=>?_)) hm
 subst e;cases r3
 refine Cb ?_
 cases k with
 |false=>exact ite_ff ⟨.bl false,H3,I3,rfl,q3⟩
 |true=>exact ite_tt (chain_last (thn (hc pins s3 σ H3 _ I3 q3) fun w' s4 ⟨z',H4,I4,r4,q4⟩=>ho' pins s4 σ H4 y z' u w' Q I4 r2 r4 q4))
def NP {op op':CmpOp} {r r':R2} (ho:OpR X (compareOp op) r) (ho':OpR X (compareOp op') r') (ha:PE X a ta) (hb:PE X b tb) (hc:PE X c tc)
  (hm:lastMarks [op,op'] [b,c]=false:=by with_unfolding_all rfl):PT X (.Compare a [op,op'] [b,c] pos) (JL (Ht r r' ta tb tc)):=by
 intro pins s σ H Q I h
 refine isTrue_chain (thn (ha pins s σ H _ I h) fun v s1 ⟨x,H1,I1,r1,q1⟩=>test_link (thn (hb pins s1 σ H1 _ I1 q1) fun u s2 ⟨y,H2,I2,r2,q2⟩=>
  thn (ho pins s2 σ H2 x y v u _ I2 r1 r2 q2) fun d s3 ⟨z,H3,I3,r3,k,e,q3⟩=>?_)) hm
 subst e;cases r3
 refine Cb ?_
 cases k with
 |false=>
  obtain⟨k',e',q'⟩:=q3;cases e';exact ite_ff ⟨H3,I3,q'⟩
 |true=>
  refine ite_tt (test_last (thn (hc pins s3 σ H3 _ I3 q3) fun w' s4 ⟨z',H4,I4,r4,q4⟩=>thn (ho' pins s4 σ H4 y z' u w' _ I4 r2 r4 q4) fun d' s5 ⟨z2,H5,I5,r5,k2,e2,q5⟩=>?_))
  subst e2;cases r5;exact Cb ⟨H5,I5,q5⟩
def TruV (K:FG) (x:V) (H:Hp) (k:Bool):Prop:=
 match x with
 |.non=>k=false
 |.bl b=>k=b
 |.int i=>k=(i !=0)
 |.str y=>y.length<=sizeLine/\k=((y.length:Int) !=0)
 |.byt y=>y.size<=sizeLine/\k=((y.size:Int) !=0)
 |.ref p=>(∃xs,SqL K H p xs/\k= !xs.isEmpty)\/(∃xs,SqT K H p xs/\k= !xs.isEmpty)\/∃kvs,H p=some (.dK kvs)/\k= !kvs.isEmpty
 |_=>False
def NQ {κ:Type} {kvs:List (κ×V)} {vs:List (κ×Value)} (r:KV kvs vs):(!vs.isEmpty)= !kvs.isEmpty:=by
 cases r<;>rfl
def JM {xs:List V} {its:List Value} (r:Vals xs its):(!its.toArray.isEmpty)= !xs.isEmpty:=by
 cases r<;>simp
def DG:(sizeLine:Nat)<2 ^ 63:=by rw[C9];decide
def NR:TruR X (fun x H Q=> ∃k,TruV X.K x H k/\Q k H):=by
 intro pins s σ H x v Q I rx h;obtain⟨k,e,q⟩:=h;have hl:=DG;have hs:sizeLine=16777216:=C9;cases x with
 |non=>
  cases rx;have e':k=false:=e;subst e';exact truthy_none ⟨H,I,q⟩
 |bl b=>
  cases rx;have e':k=b:=e;subst e';exact Cb ⟨H,I,q⟩
 |int i=>
  obtain⟨t,rfl⟩:=rx;have e':k=(i !=0):=e;subst e';exact PySem.P.truthy_int ⟨H,I,q⟩
 |str y=>
  obtain⟨t,rfl⟩:=rx;obtain⟨hy,e'⟩:y.length<=sizeLine/\k=((y.length:Int) !=0):=e;subst e';exact PySem.P.truthy_str (by lia) ⟨H,I.tok _,q⟩
 |byt y=>
  obtain⟨t,rfl⟩:=rx;obtain⟨hy,e'⟩:y.size<=sizeLine/\k=((y.size:Int) !=0):=e;subst e';exact PySem.W.truthy_bytes (by lia) ⟨H,I.tok _,q⟩
 |ref p=>
  cases rx;have e':(∃xs,SqL X.K H p xs/\k= !xs.isEmpty)\/(∃xs,SqT X.K H p xs/\k= !xs.isEmpty)\/∃kvs,H p=some (.dK kvs)/\k= !kvs.isEmpty:=e
  rcases e' with ⟨xs,hx,e'⟩|⟨xs,hx,e'⟩|⟨kvs,hx,e'⟩
  .subst e'
   obtain⟨its,r,pl,hz⟩:=I.list hx;have hlen:=r.length;exact wpAny_truthy_list pl.isList (by simp only[Ak];lia) ⟨H,I.tok _,by rw[JM r];exact q⟩
  .subst e'
   obtain⟨its,r,pl,hz⟩:=I.tuple hx;have hlen:=r.length;exact truthy_tuple pl (by simp only[Ak];lia) ⟨H,I.tok _,by rw[JM r];exact q⟩
  .subst e'
   obtain⟨hz,hS,vs,r,m⟩:kvs.length<=sizeLine/\(p==sysModules)=false/\∃vs,KV kvs vs/\s.heap.DictOf (Gr X.prog X.w) p vs:=I.hok p _ hx;have hlen:kvs.length=vs.length:=Paired.length r;exact wpAny_truthy_dict hS m (by lia) ⟨H,I.tok _,by rw[NQ r];exact q⟩
 |_=>exact (show False from e).elim
def NS (ha:PE X a ta) (he:∀whole,isTrue a X.env whole=(do let v <-whole;standAt a.pos;holding [v] (truthy v))):
  PT X a (fun σ H Q=>ta σ H fun x H'=> ∃k,TruV X.K x H' k/\Q k H'):=by
 intro pins s σ H Q I h;exact isTrue_plain (thn (ha pins s σ H _ I h) fun v s1 ⟨x,H1,I1,r1,q1⟩=>NR pins s1 σ H1 x v Q I1 r1 q1) (he _)
def op_add_str:OpR X (binaryOp .Add) (fun x y H Q=> ∃i j,x=.str i/\y=.str j/\i.length+j.length<=sizeLine/\Q (.str (i++j)) H):=by
 intro pins s σ H x y v u Q I rx ry h;obtain⟨i,j,rfl,rfl,hz,q⟩:=h;obtain⟨t,rfl⟩:=rx;obtain⟨t',rfl⟩:=ry;exact add_str (fun t' tk=>⟨.str (i++j),H,I.tok _,⟨_,rfl⟩,q⟩) hz
def AQ {x:V} {us:List Value} (r:Vals [x] us):∃u,us=[u]/\RelV x u:=by
 cases r with
 |cons r1 r2=>cases r2;exact⟨_,rfl,r1⟩
def EJ {x y:V} {us:List Value} (r:Vals [x,y] us):∃u w',us=[u,w']/\RelV x u/\RelV y w':=by
 cases r with
 |cons r1 r2=>
  cases r2 with
  |cons r3 r4=>cases r4;exact⟨_,_,rfl,r1,r3⟩
def DH (hc:X.calm=true):yy X (.builtin "max") (fun xs H Q=> ∃i j,xs=[.int i,.int j]/\Q (.int (if j > i then j else i)) H):=by
 intro pins s σ H xs us Q I r h;obtain⟨i,j,rfl,q⟩:=h;obtain⟨u,w',rfl,⟨t,rfl⟩,⟨t',rfl⟩⟩:=EJ r
 refine max_two_ints (I.ok.hd hc) fun h' tk k=>⟨_,H,I.kept k,?_,q⟩
 by_cases hj:j > i
 .rw[Aa hj,Aa hj];exact⟨_,rfl⟩
 .rw[Ac hj,Ac hj];exact⟨_,rfl⟩
def NT (hc:X.calm=true):yy X (.builtin "min") (fun xs H Q=> ∃i j,xs=[.int i,.int j]/\Q (.int (if j<i then j else i)) H):=by
 intro pins s σ H xs us Q I r h;obtain⟨i,j,rfl,q⟩:=h;obtain⟨u,w',rfl,⟨t,rfl⟩,⟨t',rfl⟩⟩:=EJ r
 refine min_two_ints (I.ok.hd hc) fun h' tk k=>⟨_,H,I.kept k,?_,q⟩
 by_cases hj:j<i
 .rw[Aa hj,Aa hj];exact⟨_,rfl⟩
 .rw[Ac hj,Ac hj];exact⟨_,rfl⟩
def NU:yy X (.type "str") (fun xs H Q=> ∃i,xs=[.int i]/\i.natAbs.log2<1920/\Q (.str (toString i)) H):=by
 intro pins s σ H xs us Q I r h;obtain⟨i,rfl,hz,q⟩:=h;obtain⟨u,rfl,t,rfl⟩:=AQ r;exact PySem.P.str_of_int hz ⟨.str _,H,I.tok _,⟨_,rfl⟩,q⟩
def LenV (K:FG) (x:V) (H:Hp) (n:Nat):Prop:=
 match x with
 |.str y=>y.length<=sizeLine/\n=y.length
 |.byt y=>y.size<=sizeLine/\n=y.size
 |.ref p=>(∃xs,SqL K H p xs/\n=xs.length)\/∃xs,SqT K H p xs/\n=xs.length
 |_=>False
def NV:yy X (.builtin "len") (fun xs H Q=> ∃x n,xs=[x]/\LenV X.K x H n/\Q (.int n) H):=by
 intro pins s σ H xs us Q I r h;obtain⟨x,n,rfl,e,q⟩:=h;obtain⟨u,rfl,rx⟩:=AQ r;have hl:=DG;have hs:sizeLine=16777216:=C9;cases x with
 |str y=>
  obtain⟨t,rfl⟩:=rx;obtain⟨hy,e'⟩:y.length<=sizeLine/\n=y.length:=e;subst e';exact len_str (by lia) ⟨.int _,H,I.tok _,⟨_,rfl⟩,q⟩
 |byt y=>
  obtain⟨t,rfl⟩:=rx;obtain⟨hy,e'⟩:y.size<=sizeLine/\n=y.size:=e;subst e';exact PySem.W.len_bytes (by lia) ⟨.int _,H,I.tok _,⟨_,rfl⟩,q⟩
 |ref p=>
  cases rx;have e':(∃xs,SqL X.K H p xs/\n=xs.length)\/∃xs,SqT X.K H p xs/\n=xs.length:=e
  rcases e' with ⟨xs,hx,e'⟩|⟨xs,hx,e'⟩
  .subst e'
   obtain⟨its,r',pl,hz⟩:=I.list hx;have hlen:=r'.length;exact Calls.call_len_list pl.isList (by simp only[Ak];lia) ⟨.int xs.length,H,I.tok _,⟨_,by simp only[Ak];rw[hlen]⟩,q⟩
  .subst e'
   obtain⟨its,r',pl,hz⟩:=I.tuple hx;have hlen:=r'.length;exact len_tuple pl (by simp only[Ak];lia) ⟨.int xs.length,H,I.tok _,⟨_,by simp only[Ak];rw[hlen]⟩,q⟩
 |_=>exact (show False from e).elim
end
structure ObjM (h:Heap) (x dx C:Addr) (mA:Str->Option Value):Prop where
 obj:h.get? x=some (PySem.W.instObj C dx)
 ns:h.Ns1 dx mA
 ne:dx≠x
def NW {h:Heap} {dx:Addr} {mA:Str->Option Value} (n:h.Ns1 dx mA):∃od,h.get? dx=some od/\∀name,PySem.W.lookIn name od=some (mA name):=by
 obtain⟨o,es,ep,ho,hd,hk,_,hm⟩:=n
 refine⟨o,ho,fun name=>?_⟩
 have e:=hm name;unfold nsFind findBy at e;rw[<-Array.find?_toList]at e
 unfold PySem.W.lookIn;rw[hd];dsimp only
 split
 .rename_i y q
  rw[q]at e;exact congrArg some e
 .rename_i q
  rw[q]at e;have a:es.toList.any (·.refKey)=false:=by
   rw[List.any_eq_false];intro y hy;obtain⟨z,t,hkey⟩:=hk y (Array.mem_toList_iff.mp hy);simp[DictEntry.refKey,hkey]
  have a': ¬es.toList.any (·.refKey)=true:=by rw[a];exact A7
  rw[Ac a'];exact congrArg some e
def ObjM.look {h:Heap} {x dx C:Addr} {mA:Str->Option Value} (I:ObjM h x dx C mA):∃od,PySem.W.InstAt h x (PySem.W.instObj C dx) C (some od)/\∀name,PySem.W.lookIn name od=some (mA name):=
 let ⟨od,ho,hl⟩:=NW I.ns
 ⟨od,⟨I.obj,rfl,rfl,ho⟩,hl⟩
section
variable {prog:Program} {w:World} {A:Around} {E:VP} {s:Shared} {K:FG} {x dx C f:Addr} {mA:Str->Option Value} {name:Str} {v:Value}
def NX {expr:Bool} {Q:VP} (X:K.In s.heap) (I:ObjM s.heap x dx C mA) (hg:PySem.W.plainGet K C name=true) (hh:PySem.W.hasDictIn K C=true)
  (ha:PySem.W.findIn K (.ref C) name=some none) (hv:mA name=some v) (hv':PySem.W.handedIn v=true) (h:Q v {s with toks:=s.toks+1}):
  wpAny (model prog w) A (getAttr (.ref x) name expr) Q E s:=by
 obtain⟨od,J,hl⟩:=I.look;exact PySem.W.get_value X J (PySem.W.plainGet_of hg).1 (PySem.W.findObj_own hh ha rfl (by rw[hl,hv])) hv' h
def NY {pl:Sem Bool} {Q:Value×List Value->Shared->Prop} (X:K.In s.heap) (I:ObjM s.heap x dx C mA) (hg:PySem.W.plainGet K C name=true)
  (hf:PySem.W.findIn K (.ref C) name=some (some (.ref f))) (ht:PySem.W.isFn K (.ref f)=true) (hv:mA name=none) (h:Q (.ref f,[.ref x]) s):
  wpAny (model prog w) A (getMethod (.ref x) name pl) Q E s:=by
 obtain⟨od,J,hl⟩:=I.look;exact PySem.W.method_fn X J (PySem.W.plainGet_of hg).1 (PySem.W.plainGet_of hg).2 hf (Au.mp ht) (by show (PySem.W.lookIn name od).map (·.isSome)=some false;rw[hl,hv];rfl) h
def NZ {ns:List Str} {Q:Unit->Shared->Prop} (X:K.In s.heap) (I:ObjM s.heap x dx C mA)
  (hs:PySem.W.findIn K (.ref C) "__setattr__" =some (some (.builtin "object.__setattr__"))) (hp:PySem.W.plainOver K C=true) (ht:PySem.W.takerIn K C name=some none) (hh:PySem.W.hasDictIn K C=true)
  (hw:PySem.Within mA ns) (hsz:ns.length<=sizeLine)
  (h:∀h',ObjM h' x dx C (fun y=>if y=name then some v else mA y)->Heap.SameBut dx s.heap h'->Q () {s with heap:=h',toks:=s.toks+2}):
  wpAny (model prog w) A (setAttr (.ref x) name v) Q E s:=by
 obtain⟨od,J,hl⟩:=I.look
 refine PySem.W.set_plain X J hs (PySem.W.osa_open (s:={s with toks:=s.toks+1}) (r:=none) X J hp ht fun b=>?_)
 obtain⟨cd,hc,hd'⟩:=PySem.W.any_some hh;have hx:s.heap.get? x=some ⟨.ref C,some dx,.plain,#[]⟩:=I.obj
 refine Ab (Ad (Ab (Ab (wpAny_loadPart hx (Ab (PySem.W.Looks.here (s:={s with toks:=s.toks+1}) (PySem.W.looks_clsIn X hc) ?_))))))
 rw[hd']
 refine Ad (a:=some dx) (Ab (Ad (Ab ?_)))
 refine wpAny_nsSet1 (s:={s with toks:=s.toks+1}) I.ns fun h' hn2 hs2=>?_
 obtain⟨oD,esD,epD,hoD,hdD,hcD⟩:=hn2.count (PySem.Within.cons name v hw)
 refine Ab (wpAny_lookBehind hoD (by rw[hdD];exact pastItsLine_dict (Bi hcD (by rw[Az];lia))) ?_)
 exact Ad (h _ ⟨(hs2.2 _ (A5 I.ne)).trans I.obj,hn2,I.ne⟩ hs2)
def Oa {R:Result->Shared->Prop} {vs:List Value} {kw:List (Str×Value)} (X:K.In s.heap) (hm:PySem.W.makesIn K C=true)
  (hi:PySem.W.findIn K (.ref C) "__init__" =some (some (.ref f))) (hf:PySem.W.typeIn K (.ref f)=some (.type "function"))
  (h:codeAny (model prog w) (A.under (.builtin "type.__call__" ⟨.ref C::vs,kw⟩)) (.call (.ref f) ⟨.ref (s.heap.objs.size+1)::vs,kw⟩) (PySem.W.InitBack (s.heap.objs.size+1) R)
   {s with heap:=(s.heap.push PySem.W.emptyDict).push (PySem.W.instObj C s.heap.objs.size)}):
  codeAny (model prog w) A (.call (.ref C) ⟨vs,kw⟩) R s:=by
 obtain⟨hh,g,d,t,os⟩:=s;exact PySem.W.make_core (PySem.W.makes_of X hm) (Dp X hi) (fun self=>PySem.W.bind_fn X self hf) (.inl rfl) h
end
def putF (f:Str) (v:V):List (Str×V)->List (Str×V)
 | []=>[(f,v)]
 | (g,x)::r=>if g=f then (g,v)::r else (g,x)::putF f v r
theorem JN (f g:Str) (v:V):∀fs:List (Str×V),(putF f v fs).lookup g=if g=f then some v else fs.lookup g
 | []=>by
  show List.lookup g [(f,v)]=_
  by_cases h:g=f
  .have hb:(g==f)=true:=Au.mpr h
   simp only[List.lookup,hb,Aa h]
  .have hb:(g==f)=false:=D7.mpr h
   simp only[List.lookup,hb,Ac h]
 | (k,x)::r=>by
  have ih:=JN f g v r;rw[show putF f v ((k,x)::r)=(if k=f then (k,v)::r else (k,x)::putF f v r) from rfl]
  by_cases hk:k=f
  .rw[Aa hk]
   by_cases h:g=k
   .have hb:(g==k)=true:=Au.mpr h
    simp only[List.lookup,hb,Aa (h.trans hk)]
   .have hb:(g==k)=false:=D7.mpr h
    simp only[List.lookup,hb,Ac (fun e:g=f=>h (e.trans hk.symm))]
  .rw[Ac hk]
   by_cases h:g=k
   .have hb:(g==k)=true:=Au.mpr h
    simp only[List.lookup,hb,Ac (fun e:g=f=>hk (h.symm.trans e))]
   .have hb:(g==k)=false:=D7.mpr h
    simp only[List.lookup,hb];exact ih
theorem Hu (f:Str) (v:V):∀fs:List (Str×V),f∈(putF f v fs).map (·.1)/\∀g,g∈fs.map (·.1)->g∈(putF f v fs).map (·.1)
 | []=>⟨by simp[putF],fun g h=>by simp at h⟩
 | (k,x)::r=>by
  obtain⟨i1,i2⟩:=Hu f v r;rw[show putF f v ((k,x)::r)=(if k=f then (k,v)::r else (k,x)::putF f v r) from rfl]
  by_cases hk:k=f
  .rw[Aa hk]
   subst hk;exact⟨by simp,fun g h=>by simpa using h⟩
  .rw[Ac hk]
   refine⟨?_,fun g h=>?_⟩
   .rw[Al]
    exact Am _ i1
   .rw[Al]at h ⊢
    rcases Ae.mp h with e|e
    .exact Ae.mpr (.inl e)
    .exact Am _ (i2 g e)
theorem JO (f:Str) (v:V):∀fs:List (Str×V),(putF f v fs).length<=fs.length+1
 | []=>by simp[putF]
 | (k,x)::r=>by
  have ih:=JO f v r;rw[show putF f v ((k,x)::r)=(if k=f then (k,v)::r else (k,x)::putF f v r) from rfl]
  by_cases hk:k=f
  .rw[Aa hk,Az,Az];lia
  .rw[Ac hk,Az,Az];lia
def RelO.some_of {v:V} {o:Option Value} (r:RelO (some v) o):∃u,o=some u/\RelV v u:=by
 cases o with
 |none=>exact (show False from r).elim
 |some u=>exact⟨u,rfl,r⟩
def RelO.none_of {o:Option Value} (r:RelO none o):o=none:=by
 cases o with
 |none=>rfl
 |some u=>exact (show False from r).elim
def Ob {v:V} {u:Value} (r:RelV v u):PySem.W.handedIn u=true:=by
 cases v with
 |non=>cases (show u=Value.none from r);rfl
 |bl b=>cases (show u=Value.bool b from r);rfl
 |int i=>obtain⟨t,e⟩:=(show ∃t,u=Value.int i t from r);cases e;rfl
 |str x=>obtain⟨t,e⟩:=(show ∃t,u=Value.str x t from r);cases e;rfl
 |byt b=>obtain⟨t,e⟩:=(show ∃t,u=Value.bytes b t from r);cases e;rfl
 |flt b=>obtain⟨t,e⟩:=(show ∃t,u=Value.float b t from r);cases e;rfl
 |ref a=>cases (show u=Value.ref a from r);rfl
 |ty n=>cases (show u=Value.type n from r);rfl
section
variable {P:Program} {w:World} {H H':Hp} {h h':Heap} {a C dx:Addr} {fs fs':List (Str×V)}
def Gv (hok:HOk P w H h) (e:H a=some (.ins C dx fs)):∃mA,ObjM h a dx C mA/\(∀f,RelO (fs.lookup f) (mA f))/\PySem.Within mA (fs.map (·.1))/\fs.length<=1000/\H dx=some (.own a):=by
 obtain⟨d,z,ne,ob,mA,n,r,q⟩:=(show ObjOk P w H h a (.ins C dx fs) from hok a _ e)
 exact⟨mA,⟨ob,n,ne⟩,r,q,z,d⟩
end
structure Cls (K:FG) (C:Addr):Prop where
 pg:PySem.W.plainGet K C Str.empty=true
 hd:PySem.W.hasDictIn K C=true
 po:PySem.W.plainOver K C=true
 sa:PySem.W.findIn K (.ref C) "__setattr__" =some (some (.builtin "object.__setattr__"))
def Cls.get {K:FG} {C:Addr} (c:Cls K C) (f:Str):PySem.W.plainGet K C f=true:=c.pg
def NoAttr (K:FG) (C:Addr) (f:Str):Prop:=PySem.W.findIn K (.ref C) f=some none
def NoAttr.taker {K:FG} {C:Addr} {f:Str} (n:NoAttr K C f):PySem.W.takerIn K C f=some none:=by
 unfold PySem.W.takerIn;rw[show PySem.W.findIn K (.ref C) f=some none from n]
 rfl
structure Meth (K:FG) (C:Addr) (m:Str) (f:Addr):Prop where
 at_:PySem.W.findIn K (.ref C) m=some (some (.ref f))
 fn:PySem.W.isFn K (.ref f)=true
 kp:PySem.W.keepIn K (.ref f)=true
section
variable {X:Cx} {pins:AL} {σ:St} {H:Hp} {s:Shared} {a C dx:Addr} {fs:List (Str×V)} {f:Str} {v:V} {A:Around} {E:VP}
def Oc {b:Bool} {Q:VP} (I:Inv X pins σ H s) (e:H a=some (.ins C dx fs)) (c:Cls X.K C) (n:NoAttr X.K C f) (l:fs.lookup f=some v)
  (h:∀u s',Inv X pins σ H s'->RelV v u->Q u s'):wpAny (model X.prog X.w) A (getAttr (.ref a) f b) Q E s:=by
 obtain⟨mA,O,r,_,_,_⟩:=Gv I.hok e;obtain⟨u,hu,ru⟩:=RelO.some_of (v:=v) (o:=mA f) (by rw[<-l];exact r f)
 exact NX I.kIn O (c.get f) c.hd n hu (Ob ru) (h u _ (I.tok _) ru)
def Od {m:Str} {g:Addr} {pl:Sem Bool} {Q:Value×List Value->Shared->Prop} (I:Inv X pins σ H s) (e:H a=some (.ins C dx fs)) (c:Cls X.K C) (k:Meth X.K C m g) (l:fs.lookup m=none)
  (h:Q (.ref g,[.ref a]) s):wpAny (model X.prog X.w) A (getMethod (.ref a) m pl) Q E s:=by
 obtain⟨mA,O,r,_,_,_⟩:=Gv I.hok e;have hn:mA m=none:=RelO.none_of (by rw[<-l];exact r m)
 exact NY I.kIn O (c.get m) k.at_ k.fn hn h
def Oe {y:V} {u:Value} {Q:Unit->Shared->Prop} (I:Inv X pins σ H s) (e:H a=some (.ins C dx fs)) (c:Cls X.K C) (n:NoAttr X.K C f) (hl:fs.length<1000) (ry:RelV y u)
  (h:∀s',Inv X pins σ (zi H a (.ins C dx (putF f y fs))) s'->Q () s'):wpAny (model X.prog X.w) A (setAttr (.ref a) f u) Q E s:=by
 obtain⟨mA,O,r,wi,_,ho⟩:=Gv I.hok e;have hz:(fs.map (·.1)).length<=sizeLine:=by rw[Ah,C9];lia
 refine NZ I.kIn O c.sa c.po n.taker c.hd wi hz fun h' O' sb=>h _ ?_
 have hd:∃o,h'.get? dx=some o:=let ⟨o,_,_,e',_⟩:=O'.ns;⟨o,e'⟩
 refine I.write (x:=a) (e:=dx) (by rw[e];exact True.intro) (.inr ho) (fun b q hb z=>(sb.2 b hb).trans z) hd ?_
 refine⟨by rw[zy O.ne];exact ho,?_,O.ne,O'.obj,_,O'.ns,fun g=>?_,fun g hg=>?_⟩
 .have:=JO f y fs;lia
 .show RelO ((putF f y fs).lookup g) (if g=f then some u else mA g)
  rw[JN]
  by_cases q:g=f
  .rw[Aa q,Aa q];exact ry
  .rw[Ac q,Ac q];exact r g
 .by_cases q:g=f
  .rw[q];exact (Hu f y fs).1
  .refine (Hu f y fs).2 g (wi g fun z=>hg ?_)
   show (if g=f then some u else mA g)=none
   rw[Ac q];exact z
def Inv.made (I:Inv X pins σ H s):Inv X pins σ (zi (zi H s.heap.objs.size (.own (s.heap.objs.size+1))) (s.heap.objs.size+1) (.ins C s.heap.objs.size []))
  {s with heap:=(s.heap.push PySem.W.emptyDict).push (PySem.W.instObj C s.heap.objs.size)}:=by
 have e1:(s.heap.push PySem.W.emptyDict).get? s.heap.objs.size=some PySem.W.emptyDict:=A6 s.heap rfl;have e2:((s.heap.push PySem.W.emptyDict).push (PySem.W.instObj C s.heap.objs.size)).get? (s.heap.objs.size+1)=some (PySem.W.instObj C s.heap.objs.size):=by
  have:=A6 (s.heap.push PySem.W.emptyDict) (o:=PySem.W.instObj C s.heap.objs.size) rfl
  rwa [B4]at this
 have e3:(s.heap.push PySem.W.emptyDict).Ns s.heap.objs.size (fun _=>none):=⟨PySem.W.emptyDict,#[],_,e1,rfl,(fun e he=>absurd he (by simp)),fun _=>rfl⟩
 have I1:=I.laid (a:=s.heap.objs.size) (o:= .own (s.heap.objs.size+1)) (h':=s.heap.push PySem.W.emptyDict) (t':=s.toks) (fun b u q=>Ao _ q) (Ag _) ⟨_,e1⟩
 refine I1.laid (a:=s.heap.objs.size+1) (o:= .ins C s.heap.objs.size []) (t':=s.toks) (fun b u q=>Ao _ q) (Nat.le_of_eq (B4 _ _)) ?_
 have ne:s.heap.objs.size≠s.heap.objs.size+1:=Aq (Da _)
 refine⟨by rw[zy ne,z6],Bw _,ne,e2,fun _=>none,(Heap.Ns1.of_empty e3).at fun o q=>Ao _ q,fun _=>True.intro,fun y hy=>absurd rfl hy⟩
def JP {prog:Program} {w:World} {env:Env} {e:Expr} {f:Str} {pos:Pos} {s:Shared} {Q:VP} (hb:attributeBase e f env (eval e env)=eval e env)
  (h:wpAny (model prog w) A (eval e env) (fun o s₁=>wpAny (model prog w) A (getAttr o f true) Q E s₁) E s):wpAny (model prog w) A (eval (.Attribute e f pos) env) Q E s:=
 Attribute_any_ h (by rw[arm_eval_Attribute,hb])
end
def tFld (K:FG) (ta:TE) (f:Str):TE:=fun σ H Q=>ta σ H fun x H1=> ∃a C dx fs v,x=.ref a/\H1 a=some (.ins C dx fs)/\Cls K C/\NoAttr K C f/\fs.lookup f=some v/\Q v H1
def sFld (K:FG) (ta tv:TE) (f:Str):TS:=fun D σ H=>tv σ H fun y H1=>ta σ H1 fun x H2=> ∃a C dx fs,x=.ref a/\H2 a=some (.ins C dx fs)/\Cls K C/\NoAttr K C f/\fs.length<1000/\
 D.nx σ (zi H2 a (.ins C dx (putF f y fs)))
section
variable {X:Cx} {o e value:Expr} {f:Str} {pos pos' tpos:Pos} {ta tv:TE}
def Of (he:PE X e ta) (hb:attributeBase e f X.env (eval e X.env)=eval e X.env):PE X (.Attribute e f pos) (tFld X.K ta f):=by
 intro pins s σ H Q I h
 refine JP hb (thn (he pins s σ H _ I h) fun u s1 ⟨x,H1,I1,rx,a,C,dx,fs,v,ex,ea,c,n,l,q⟩=>?_)
 subst ex;obtain rfl:u=Value.ref a:=rx;exact Oc I1 ea c n l fun u' s2 I2 ru=>⟨v,H1,I2,ru,q⟩
def Og (ha:PE X o ta) (hv:PE X value tv) (hs:swapsWith value (some (.Attribute o f pos')) pos.line X.env=pure false):PS X (.Assign [.Attribute o f pos'] value pos) (sFld X.K ta tv f):=by
 intro pins s σ H D I h
 refine plainObj_wpAny_Assign_Attribute (thn (hv pins s σ H _ I h) fun u s1 ⟨y,H1,I1,ry,q⟩=>thn (ha pins s1 σ H1 _ I1 q) fun ov s2 ⟨x,H2,I2,rx,a,C,dx,fs,ex,ea,c,n,l,q2⟩=>?_) hs
 subst ex;obtain rfl:ov=Value.ref a:=rx;exact Oe I2 ea c n l ry fun s3 I3=>⟨σ,_,I3,q2⟩
end
section
variable {X:Cx} {pins:AL} {σ:St} {H:Hp} {s:Shared} {A:Around} {E:VP} {Q:VP} {c:Value} {b:Bool}
inductive TyOf (K:FG) (H:Hp):V->Value->Prop where
 |non:TyOf K H .non (.type "NoneType")
 |bl (x:Bool):TyOf K H (.bl x) (.type "bool")
 |int (i:Int):TyOf K H (.int i) (.type "int")
 |str (x:Str):TyOf K H (.str x) (.type "str")
 |flt (x:UInt64):TyOf K H (.flt x) (.type "float")
 |lst {a:Addr} {xs:List V} (e:H a=some (.lst xs)):TyOf K H (.ref a) (.type "list")
 |frz {a:Addr} {o:Obj} {xs:List V} (e:H a=some (.frz o (.lst xs))):TyOf K H (.ref a) (.type "list")
 |tup {a:Addr} {xs:List V} (e:H a=some (.tup xs)):TyOf K H (.ref a) (.type "tuple")
 |dK {a:Addr} {kvs:List (yC×V)} (e:H a=some (.dK kvs)):TyOf K H (.ref a) (.type "dict")
 |dT {a:Addr} {kvs:List (MK×V)} (e:H a=some (.dT kvs)):TyOf K H (.ref a) (.type "dict")
 |ins {a C dx:Addr} {fs:List (Str×V)} (e:H a=some (.ins C dx fs)) (cl:Cls K C) (ha:PySem.W.findIn K (.ref C) "__class__" =some (some (.builtin "object.__class__")))
  (hn:PySem.W.specialIn K (.builtin "object.__class__") "__get__" =some (some (.builtin "getset_descriptor.__get__"))) (htk:PySem.W.takesIn K (.builtin "object.__class__")=some true)
  (hm:PySem.W.mroIn K C (.type "object")=some true):TyOf K H (.ref a) (.ref C)
def Oh {x:V} {u t:Value} (I:Inv X pins σ H s) (rx:RelV x u) (ty:TyOf X.K H x t) (e:PySem.W.kitOne X.K t c=some b) (h:∀tk,Q (.bool b) {s with toks:=tk}):
  wpAny (model X.prog X.w) A (call (.builtin "isinstance") [u,c]) Q E s:=by
 cases ty with
 |non=>cases (show u=Value.none from rx);exact B5 PySem.W.kitx_none I.kIn True.intro e (fun z=>nomatch z) h
 |bl y=>cases (show u=Value.bool y from rx);exact B5 PySem.W.kitx_bool I.kIn True.intro e (fun z=>nomatch z) h
 |int i=>obtain⟨t,q⟩:=(show ∃t,u=Value.int i t from rx);cases q;exact B5 PySem.W.kitx_int I.kIn True.intro e (fun z=>nomatch z) h
 |str y=>obtain⟨t,q⟩:=(show ∃t,u=Value.str y t from rx);cases q;exact B5 PySem.W.kitx_str I.kIn True.intro e (fun z=>nomatch z) h
 |flt y=>obtain⟨t,q⟩:=(show ∃t,u=Value.float y t from rx);cases q;exact B5 PySem.W.kitx_float I.kIn True.intro e (fun z=>nomatch z) h
 | @lst a xs ea=>
  cases (show u=Value.ref a from rx)
  obtain⟨_,_,n,_,h1⟩:=(show ObjOk X.prog X.w H s.heap a (.lst xs) from I.hok a _ ea)
  exact B5 PySem.W.kitx_list I.kIn ⟨_,h1,rfl⟩ e (fun z=>nomatch z) h
 | @frz a ob xs ea=>
  cases (show u=Value.ref a from rx)
  obtain⟨_,_,_,n,_,h1⟩:=(show ObjOk X.prog X.w H s.heap a (.frz ob (.lst xs)) from I.hok a _ ea)
  exact B5 PySem.W.kitx_list I.kIn ⟨_,h1,rfl⟩ e (fun z=>nomatch z) h
 | @tup a xs ea=>
  cases (show u=Value.ref a from rx)
  obtain⟨_,_,_,p⟩:=(show ObjOk X.prog X.w H s.heap a (.tup xs) from I.hok a _ ea)
  obtain⟨o,h1,h2,_⟩:=p;exact B5 PySem.W.kitx_tuple I.kIn ⟨o,h1,h2⟩ e (fun z=>nomatch z) h
 | @dK a kvs ea=>
  cases (show u=Value.ref a from rx)
  obtain⟨_,_,vs,_,p⟩:=(show ObjOk X.prog X.w H s.heap a (.dK kvs) from I.hok a _ ea)
  obtain⟨o,es,ep,h1,h2,_⟩:=p;exact B5 PySem.W.kitx_dict I.kIn ⟨o,h1,h2.1⟩ e (fun z=>nomatch z) h
 | @dT a kvs ea=>
  cases (show u=Value.ref a from rx)
  obtain⟨_,_,xs,_,o,es,ep,h1,h2,_⟩:=(show ObjOk X.prog X.w H s.heap a (.dT kvs) from I.hok a _ ea)
  exact B5 PySem.W.kitx_dict I.kIn ⟨o,h1,h2.1⟩ e (fun z=>nomatch z) h
 | @ins a C dx fs ea cl ha hn htk hm=>
  cases (show u=Value.ref a from rx)
  obtain⟨mA,O,_⟩:=Gv I.hok ea;obtain⟨od,J,_⟩:=O.look;exact B5 (PySem.W.kitx_own (cl.get _) cl.hd ha hn htk hm) I.kIn J e (fun z=>nomatch z) h
end
structure Room (k:Nat) (A:Around):Prop where
 hd:A.handled=none
 dp:A.depth+3*k+5<recursionLimit
 un:A.units+16*k+200<cLine
def Room.mono {j k:Nat} {A:Around} (r:Room k A) (h:j<=k):Room j A:=⟨r.hd,by have:=r.dp;lia,by have:=r.un;lia⟩
theorem Room.deeper {k:Nat} {A:Around} (r:Room (k+1) A) (env:Env):Room k (A.deeper env):=
 ⟨r.hd,by have:=r.dp;show A.depth+1+3*k+5<_;lia,by have:=r.un;show A.units+3+16*k+200<_;lia⟩
def Oj {A:Around} {C:Addr} {us:List Value} {kw:List (Str×Value)}:(A.under (.builtin "type.__call__" ⟨.ref C::us,kw⟩)).depth=A.depth+1:=by
 first|rfl|simp[Around.under,Code.weight,Code.isCreation,Code.isGuard,Code.isCaller,Code.frames,Code.isFrame,guardIds]
def Ol {A:Around} {C:Addr} {us:List Value} {kw:List (Str×Value)}:(A.under (.builtin "type.__call__" ⟨.ref C::us,kw⟩)).units=A.units+1:=by
 first|rfl|simp[Around.under,Code.cUnits,Code.frames,Code.isFrame]
def Room.make {k:Nat} {A:Around} (r:Room (k+1) A) (C:Addr) (us:List Value) (kw:List (Str×Value)):Room k (A.under (.builtin "type.__call__" ⟨.ref C::us,kw⟩)):=
 ⟨r.hd,by have:=r.dp;rw[Oj];lia,by have:=r.un;rw[Ol];lia⟩
theorem Room.depth {k:Nat} {A:Around} (r:Room k A):A.depth<recursionLimit:=by have:=r.dp;lia
theorem Room.units {k:Nat} {A:Around} (r:Room k A):A.units+64<cLine:=by have:=r.un;lia
def tNil:TA:=fun _ H Q=>Q [] H
def Hv (ta:TE) (tr:TA):TA:=fun σ H Q=>ta σ H fun x H1=>tr σ H1 fun xs H2=>Q (x::xs) H2
section
variable {X:Cx} {e:Expr} {es:List Expr} {te:TE} {t:TA} {pos:Pos}
def JQ:PA X [] tNil:=fun _ _ _ _ H Q I h=>Calls.spliced_nil ⟨[],H,I,.nil,h⟩
def Hw (ha:PE X e te) (hr:PA X es t) (hs:SE X e es:=by rfl):PA X (e::es) (Hv te t):=by
 intro pos pins s σ H Q I h;rw[hs];show wpAny _ _ (spliced ((false,eval e X.env)::backTo pos (starEach es X.env))) _ _ s
 refine Calls.spliced_cons (thn (ha pins s σ H _ I h) fun u s1 ⟨x,H1,I1,r1,q1⟩=>?_)
 exact thn (hr pos pins s1 σ H1 _ I1 q1) fun us s2 ⟨xs,H2,I2,r2,q2⟩=>⟨x::xs,H2,I2,.cons r1 r2,q2⟩
def tTup (t:TA):TE:=fun σ H Q=>t σ H fun xs H1=>xs.length<=sizeLine/\∀p,H1 p=none->Q (.ref p) (zi H1 p (.tup xs))
def tLst (t:TA):TE:=fun σ H Q=>t σ H fun xs H1=>xs.length<=sizeLine/\∀p,H1 p=none->Q (.ref p) (zi H1 p (.lst xs))
def Om {x1} (h:PA X es t):PE X (.Tuple es x1 pos) (tTup t):=by
 intro pins s σ H Q I hq
 refine wpAny_Tuple_spliced (thn (h pos pins s σ H _ I hq) fun us s1 ⟨xs,H1,I1,r,z,q⟩=>⟨by rw[<-r.length];exact z,?_⟩)
 have hf:H1 s1.heap.objs.size=none:=I1.hok.fresh (Ag _)
 refine⟨.ref s1.heap.objs.size,zi H1 s1.heap.objs.size (.tup xs),I1.laid (t':=s1.toks) (fun b u e=>Ao _ e) (Ag _) ?_,rfl,q _ hf⟩
 exact⟨z,us,r,⟨_,A6 _ rfl,rfl,_,rfl⟩⟩
def On (h:PA X es t):PE X (.List es pos) (tLst t):=by
 intro pins s σ H Q I hq
 refine wpAny_List_spliced (thn (h pos pins s σ H _ I hq) fun us s1 ⟨xs,H1,I1,r,z,q⟩=>⟨by rw[<-r.length];exact z,?_⟩)
 have hf:H1 s1.heap.objs.size=none:=I1.hok.fresh (Ag _)
 refine⟨.ref s1.heap.objs.size,zi H1 s1.heap.objs.size (.lst xs),I1.laid (t':=s1.toks) (fun b u e=>Ao _ e) (Ag _) ?_,rfl,q _ hf⟩
 exact⟨z,us,0,r,A6 _ rfl⟩
end
abbrev Sp:=List V->Hp->VK->XK->Prop
abbrev qw:=List Env->Hp->Shared->XK->VP
structure Env0 (P:Program) (w:World) (K:FG) (mg:Str->Option Value) (base:Heap) (A:Around) (outer:List Env) (s:Shared) (H:Hp):Prop where
 frames:A.frames=some outer
 mod:Mod K mg base
 bs:∀b o,base.get? b=some o->s.heap.get? b=some o/\H b=none
 bsz:base.objs.size<=s.heap.objs.size
 funs:s.heap.FunFrames base outer
 frf:∀b∈zX outer,H b=none
 hok:HOk P w H s.heap
 bare:AllBare s.gens
def CE (outer:List Env) (P:Program) (w:World) (H:Hp) (s:Shared) (Q:VK) (u:Value) (s':Shared):Prop:=
 ∃v H',s'.os=s.os/\AllBare s'.gens/\Un (zX outer) [] H H' s.heap s'.heap/\HOk P w H' s'.heap/\RelV v u/\Q v H'
def CR (CX:qw) (outer:List Env) (P:Program) (w:World) (H:Hp) (s:Shared) (Q:VK) (E:XK) (r:Result) (s':Shared):Prop:=
 match r with
 |.ok (.ret u)=>CE outer P w H s Q u s'
 |.ok _=>False
 |.error e=>CX outer H s E e s'
structure FnOk (P:Program) (w:World) (K:FG) (mg:Str->Option Value) (base:Heap) (CX:qw) (k:Nat) (f:Addr) (fd:FuncData) (ps:List Str) (sp:Sp):Prop where
 len:∀vs H Q E,sp vs H Q E->vs.length=ps.length
 run:∀(A:Around) (outer:List Env) (s:Shared) (H:Hp) (args:Args) (us:List Value) (vs:List V) (Q:VK) (E:XK),Room k A->Env0 P w K mg base A outer s H->BindsTo s fd args (ps.zip us)->Vals vs us->sp vs H Q E->
  codeAny (model P w) A (.call (.ref f) args) (CR CX outer P w H s Q E) s
def FnOk.imp {P:Program} {w:World} {K:FG} {mg:Str->Option Value} {base:Heap} {CX:qw} {k:Nat} {f:Addr} {fd:FuncData} {ps:List Str} {sp sp':Sp} (F:FnOk P w K mg base CX k f fd ps sp)
  (h:∀vs H Q E,sp' vs H Q E->sp vs H Q E):FnOk P w K mg base CX k f fd ps sp':=
 ⟨fun vs H Q E q=>F.len vs H Q E (h _ _ _ _ q),fun A outer s H args us vs Q E hr he hb hv hs=>F.run A outer s H args us vs Q E hr he hb hv (h _ _ _ _ hs)⟩
def Env0.make {P:Program} {w:World} {K:FG} {mg:Str->Option Value} {base:Heap} {A:Around} {outer:List Env} {s:Shared} {H:Hp} (e:Env0 P w K mg base A outer s H) (C:Addr) (us:List Value) (kw:List (Str×Value)):
 Env0 P w K mg base (A.under (.builtin "type.__call__" ⟨.ref C::us,kw⟩)) outer s H:=⟨by first|exact e.frames|(simpa[Around.under,Code.envs,Code.isFrame,pushEnvs] using e.frames),e.mod,e.bs,e.bsz,e.funs,e.frf,e.hok,e.bare⟩
section
variable {X:Cx} {pins:AL} {σ:St} {H:Hp} {s s':Shared}
def Inv.env0 (I:Inv X pins σ H s):Env0 X.prog X.w X.K X.mg X.base X.A X.stack s H:=
 ⟨I.ok.frames,I.ok.mod,I.bs,Bi I.ok.bsz I.sz,I.stack,I.stkFree,I.hok,I.bare⟩
def Inv.after {Q:VK} {u:Value} (I:Inv X pins σ H s) (h:CE X.stack X.prog X.w H s Q u s'):EP X pins σ Q u s':=by
 obtain⟨v,H',os,bare,un,hok,r,q⟩:=h;obtain⟨hh,g,d,t,os'⟩:=s';obtain rfl:os'=s.os:=os;exact⟨v,H',I.call (h':=hh) (g':=g) (d':=d) (t':=t) (ch:=[]) un hok bare (fun b z=>absurd z (by simp)),r,q⟩
end
def EK (sp:Sp) (dvs:List V) (E:XK) (t:TA):TE:=fun σ H Q=>t σ H fun vs H1=>sp (vs++dvs) H1 Q E
def JR (C:Addr) (m:Str) (sp:Sp) (dvs:List V) (E:XK) (ta:TE) (t:TA):TE:=fun σ H Q=>ta σ H fun x H1=> ∃a dx fs,x=.ref a/\H1 a=some (.ins C dx fs)/\fs.lookup m=none/\
 t σ H1 fun vs H2=>sp (x::(vs++dvs)) H2 Q E
def JS (C:Addr) (sp:Sp) (dvs:List V) (E:XK) (t:TA):TE:=fun σ H Q=>t σ H fun vs H1=> ∀x dx,H1 x=none->H1 dx=none->dx≠x->
 sp (.ref x::(vs++dvs)) (zi (zi H1 dx (.own x)) x (.ins C dx [])) (fun v H2=>v=.non/\Q (.ref x) H2) E
def Binds (K:FG) (fd:FuncData) (ps:List Str) (ds:List Value):Prop:=
 ∀(s:Shared) (us:List Value),K.In s.heap->(us++ds).length=ps.length->BindsTo s fd ⟨us,[]⟩ (ps.zip (us++ds))
def Binds.all {K:FG} {fd:FuncData} {ps:List Str} (h:∀us:List Value,us.length=ps.length->bindArgs fd ⟨us,[]⟩=pure (ps.zip us)):Binds K fd ps []:=fun s us _ hl=>by
 rw[Bt]at hl ⊢;exact .of_eq (h us hl)
def qC (CX:qw) (X:Cx) (E:XK):Prop:=∀(pins:AL) (σ:St) (H:Hp) (s:Shared) (e:Value) (s':Shared),Inv X pins σ H s->CX X.stack H s E e s'->X.xe e s'
section
variable {X:Cx} {CX:qw} {k:Nat} {f C:Addr} {fd:FuncData} {ps:List Str} {sp:Sp} {dvs:List V} {ds:List Value} {E:XK} {x m:Str} {p pos apos:Pos} {e o:Expr} {es:List Expr} {ta:TE} {t:TA}
def JT {pins:AL} {σ:St} {H:Hp} {s:Shared} {Q:VK} {us:List Value} {vs:List V} (F:FnOk X.prog X.w X.K X.mg X.base CX k f fd ps sp) (hr:Room k X.A) (hb:Binds X.K fd ps ds) (hd:Vals dvs ds) (hx:qC CX X E)
  (I:Inv X pins σ H s) (r:Vals vs us) (h:sp (vs++dvs) H Q E):wpAny (model X.prog X.w) X.A (call (.ref f) us) (EP X pins σ Q) X.xe s:=by
 have r2:Vals (vs++dvs) (us++ds):=r.append hd;have hl:(us++ds).length=ps.length:=by rw[<-r2.length];exact F.len _ _ _ _ h
 refine Dc (Cw (F.run X.A X.stack s H ⟨us,[]⟩ (us++ds) (vs++dvs) Q E hr I.env0 (hb s us I.kIn hl) r2 h) fun r s' hq=>?_)
 cases r with
 |error e=>exact hx pins σ H s e s' I hq
 |ok fl=>
  cases fl with
  |ret u=>exact I.after hq
  |next=>exact False.elim hq
  |brk=>exact False.elim hq
  |cont=>exact False.elim hq
def Oo (F:FnOk X.prog X.w X.K X.mg X.base CX k f fd ps sp) (hr:Room k X.A) (hg:Gl X x) (hm:X.mg x=some (.ref f)) (hk:PySem.W.keepIn X.K (.ref f)=true) (hb:Binds X.K fd ps ds) (hd:Vals dvs ds) (hx:qC CX X E)
  (ha:PA X (e::es) t) (hdb:(x==("__debug__" :Str))=false:=by decide) (he:SE X e es:=by rfl) (hpl:BA X pos es:=by rfl):
  PE X (.Call (.Name x p) (e::es) [] pos) (EK sp dvs E t):=by
 intro pins s σ H Q I h
 refine Cy (AK I hg hm ?_ hdb)
 refine Ec (h₀:=X.base) I.ok.mod.kin hk (thn (ha pos pins s σ H _ I h) fun us s1 ⟨vs,H1,I1,r,q⟩=>⟨I1.kIn,?_⟩) he hpl
 exact JT F hr hb hd hx I1 r q
def Oq {pl:Sem Bool} (he:PE X o ta) (c:Cls X.K C) (hm:Meth X.K C m f) (F:FnOk X.prog X.w X.K X.mg X.base CX k f fd ps sp) (hr:Room k X.A) (hb:Binds X.K fd ps ds) (hd:Vals dvs ds) (hx:qC CX X E) (ha:PA X (e::es) t)
  (hst:SE X e es:=by rfl) (hpl:BA X pos es:=by rfl)
  (ht:eval (.Call (.Attribute o m apos) (e::es) [] pos) X.env=(do
   let ov <-eval o X.env
   standAt apos.atName
   let (f,first) <-holding [ov] (getMethod ov m pl)
   callWith pos f first (backTo pos (starEach (e::es) X.env)) (backToKw pos (keywordEach [] X.env))):=by rfl):
  PE X (.Call (.Attribute o m apos) (e::es) [] pos) (JR C m sp dvs E ta t):=by
 intro pins s σ H Q I h
 refine PySem.W.methodCall_KW (pl:=pl) (thn (he pins s σ H _ I h) fun u s1 ⟨x,H1,I1,rx,a,dx,fs,ex,ea,l,q⟩=>?_) ht
 subst ex;obtain rfl:u=Value.ref a:=rx
 refine Od I1 ea c hm l ?_
 refine Ec (first:=[.ref a]) (h₀:=X.base) I.ok.mod.kin hm.kp (thn (ha pos pins s1 σ H1 _ I1 q) fun us s2 ⟨vs,H2,I2,r,q2⟩=>⟨I2.kIn,?_⟩) hst hpl
 exact JT (us:= .ref a::us) (vs:= .ref a::vs) F hr hb hd hx I2 (.cons rfl r) q2
structure Mk (K:FG) (C f:Addr):Prop where
 makes:PySem.W.makesIn K C=true
 init:PySem.W.findIn K (.ref C) "__init__" =some (some (.ref f))
 fn:PySem.W.isFn K (.ref f)=true
 kp:PySem.W.keepIn K (.ref C)=true
def Os {pins:AL} {σ:St} {H:Hp} {s:Shared} {Q:VK} {us:List Value} {vs:List V} (M:Mk X.K C f) (F:FnOk X.prog X.w X.K X.mg X.base CX k f fd ps sp) (hr:Room (k+1) X.A) (hb:Binds X.K fd ps ds) (hd:Vals dvs ds)
  (hx:qC CX X E) (I:Inv X pins σ H s) (r:Vals vs us)
  (h:∀x dx,H x=none->H dx=none->dx≠x->sp (.ref x::(vs++dvs)) (zi (zi H dx (.own x)) x (.ins C dx [])) (fun v H2=>v=.non/\Q (.ref x) H2) E):
  wpAny (model X.prog X.w) X.A (call (.ref C) us) (EP X pins σ Q) X.xe s:=by
 have hq:=h (s.heap.objs.size+1) s.heap.objs.size (I.hok.fresh (Dq _)) (I.hok.fresh (Ag _)) (Aq (Da _));have I2:=Inv.made (C:=C) I;have r2:Vals (V.ref (s.heap.objs.size+1)::(vs++dvs)) (Value.ref (s.heap.objs.size+1)::(us++ds)):= .cons rfl (r.append hd);have hl:(Value.ref (s.heap.objs.size+1)::us++ds).length=ps.length:=by
  have e:=r2.length;rw[F.len _ _ _ _ hq]at e;exact e.symm
 refine Dc (Oa (f:=f) I.kIn M.makes M.init (Au.mp M.fn) (Cw (F.run _ X.stack _ _ ⟨Value.ref (s.heap.objs.size+1)::us,[]⟩ (Value.ref (s.heap.objs.size+1)::(us++ds)) _ _ E (hr.make C us [])
  (I2.env0.make C us []) (hb _ (Value.ref (s.heap.objs.size+1)::us) I2.kIn hl) r2 hq) fun r s' hq'=>?_))
 cases r with
 |error e=>exact hx pins σ _ _ e s' I2 hq'
 |ok fl=>
  cases fl with
  |ret u=>
   obtain⟨v,H',I3,rv,ev,q3⟩:=I2.after hq';subst ev;exact⟨rv,⟨V.ref (s.heap.objs.size+1),H',I3,rfl,q3⟩⟩
  |next=>exact False.elim hq'
  |brk=>exact False.elim hq'
  |cont=>exact False.elim hq'
def Ot (M:Mk X.K C f) (F:FnOk X.prog X.w X.K X.mg X.base CX k f fd ps sp) (hr:Room (k+1) X.A) (hg:Gl X x) (hm:X.mg x=some (.ref C)) (hb:Binds X.K fd ps ds) (hd:Vals dvs ds) (hx:qC CX X E)
  (ha:PA X (e::es) t) (hdb:(x==("__debug__" :Str))=false:=by decide) (he:SE X e es:=by rfl) (hpl:BA X pos es:=by rfl):
  PE X (.Call (.Name x p) (e::es) [] pos) (JS C sp dvs E t):=by
 intro pins s σ H Q I h
 refine Cy (AK I hg hm ?_ hdb)
 refine Ec (h₀:=X.base) I.ok.mod.kin M.kp (thn (ha pos pins s σ H _ I h) fun us s1 ⟨vs,H1,I1,r,q⟩=>⟨I1.kIn,?_⟩) he hpl
 exact Os M F hr hb hd hx I1 r q
end
structure FnScope (N P:List Str) (sc:Scope):Prop where
 kind:sc.kind=.function
 co:sc.isCoroutine=false
 gen:sc.isGenerator=false
 nd:N.Nodup
 pre:N.take P.length=P
 par:∀x∈P,sc.names.lookup x=some .local\/sc.names.lookup x=some .cell
 nofree:∀y∈sc.names,y.2≠ .free
theorem JU {kindOf:Str->Option NameKind} {x:Str}:∀{binds:List (Str×Value)} {m:Str->Option Value},(∀v,(x,v)∉binds)->bindL kindOf binds m x=m x
 | [],_,_=>rfl
 | (n,v)::r,m,h=>by
  unfold bindL;rw[JU fun w hw=>h w (Am _ hw)]
  split
  .have:x≠n:=by rintro rfl;exact h v Aj
   simp[this]
  .rfl
theorem JV {kindOf:Str->Option NameKind} {x:Str}:∀{binds:List (Str×Value)} {m:Str->Option Value},(∀v,(x,v)∉binds)->bindC kindOf binds m x=m x
 | [],_,_=>rfl
 | (n,v)::r,m,h=>by
  unfold bindC;rw[JV fun w hw=>h w (Am _ hw)]
  split
  .rfl
  .have:x≠n:=by rintro rfl;exact h v Aj
   simp[this]
theorem JW {kindOf:Str->Option NameKind} {x:Str} {v:Value}:∀{P:List Str} {vs:List Value} {i:Nat} {m:Str->Option Value},P.Nodup->P[i]? =some x->vs[i]? =some v->kindOf x=some .local->
  bindL kindOf (P.zip vs) m x=some v
 | [],_,_,_,_,h,_,_=>by simp at h
 |_::_,[],_,_,_,_,h,_=>by simp at h
 |p::P,w::vs,0,m,nd,h1,h2,hk=>by
  simp at h1 h2;subst h1;subst h2;show bindL kindOf ((p,w)::P.zip vs) m p=_;unfold bindL;rw[JU fun v hv=>(Bu.mp nd).1 (List.of_mem_zip hv).1,Aa hk]
  simp
 |p::P,w::vs,i+1,m,nd,h1,h2,hk=>by
  show bindL kindOf ((p,w)::P.zip vs) m x=_;unfold bindL;exact JW (i:=i) (Bu.mp nd).2 (by simpa using h1) (by simpa using h2) hk
theorem JX {kindOf:Str->Option NameKind} {x:Str} {v:Value}:∀{P:List Str} {vs:List Value} {i:Nat} {m:Str->Option Value},P.Nodup->P[i]? =some x->vs[i]? =some v->kindOf x≠some .local->
  bindC kindOf (P.zip vs) m x=some v
 | [],_,_,_,_,h,_,_=>by simp at h
 |_::_,[],_,_,_,_,h,_=>by simp at h
 |p::P,w::vs,0,m,nd,h1,h2,hk=>by
  simp at h1 h2;subst h1;subst h2;show bindC kindOf ((p,w)::P.zip vs) m p=_;unfold bindC;rw[JV fun v hv=>(Bu.mp nd).1 (List.of_mem_zip hv).1,Ac hk]
  simp
 |p::P,w::vs,i+1,m,nd,h1,h2,hk=>by
  show bindC kindOf ((p,w)::P.zip vs) m x=_;unfold bindC;exact JX (i:=i) (Bu.mp nd).2 (by simpa using h1) (by simpa using h2) hk
def start (N:List Str) (vs:List V):St:=vs.map some++List.replicate (N.length-vs.length) none
def yk (CX:qw) (P:Program) (w:World) (K:FG) (mg:Str->Option Value) (base:Heap) (N:List Str) (qual:Str) (scope:Scope) (f:Addr) (cd:Value) (A:Around) (outer:List Env) (s:Shared) (H:Hp) (E:XK):Cx where
 prog:=P
 w:=w
 K:=K
 mg:=mg
 base:=base
 A:=A.deeper (envOfC qual scope s.heap.objs.size f cd)
 N:=N
 s₀:=s
 H₀:=H
 env:=envOfC qual scope s.heap.objs.size f cd
 outer:=outer
 stack:=envOfC qual scope s.heap.objs.size f cd::outer
 ex:=[]
 calm:=true
 fn:=fun _=>true
 pn:=[]
 xe:=fun e s'=>wpAny (model P w) (A.deeper (envOfC qual scope s.heap.objs.size f cd)) (leaving (envOfC qual scope s.heap.objs.size f cd) e) (fun _ s''=>CX outer H s E e s'') (fun e' s''=>CX outer H s E e' s'') s'
def JY {sc:Scope} {n:Nat} {x:Str} (h:sc.names.lookup x=some .cell):∃c,(cellsFrom n sc.names []).lookup x=some c:=by
 have q:=PySem.W.cellsFrom_some sc.names n [] (.inl h);exact Option.isSome_iff_exists.mp q
def Ou {CX:qw} {P:Program} {w:World} {K:FG} {mg:Str->Option Value} {base:Heap} {N ps:List Str} {qual:Str} {scope:Scope} {f:Addr} {cd:Value} {A:Around} {outer:List Env} {s s1:Shared} {H:Hp} {E:XK} {us:List Value} {vs:List V}
  (S:FnScope N ps scope) (hd:A.handled=none) (e0:Env0 P w K mg base A outer s H) (hl:vs.length=ps.length) (r:Vals vs us)
  (x:InCallC s s.heap.objs.size (bindL (envOfC qual scope s.heap.objs.size f cd).kindOf (ps.zip us) fun _=>none) (cellsFrom (s.heap.objs.size+1) scope.names []) (bindC (envOfC qual scope s.heap.objs.size f cd).kindOf (ps.zip us) fun _=>none) s1):
  Inv (yk CX P w K mg base N qual scope f cd A outer s H E) [] (start N vs) H s1:=by
 have hpl:ps.length<=N.length:=by have:=congrArg List.length S.pre;rw[Bc]at this;lia
 obtain⟨h1,tk,rfl,hk⟩:=x.done;have noA:∀b:Addr,b∉(yk CX P w K mg base N qual scope f cd A outer s H E).ex:=fun b z=>absurd (show b∈([]:List Addr) from z) (by simp)
 refine⟨⟨e0.mod,S.kind,rfl,rfl,Ag _,fun y z c h1 h2=>?_,fun y hy=>?_,fun y c _ h=>?_,fun _=>hd,Around.frames_deeper e0.frames,.inr ⟨rfl,rfl⟩,fun b z=>absurd z (noA b),e0.bs,e0.bsz,fun b _ _=>noA b,fun b z=>absurd z (noA b),e0.funs,e0.frf⟩,
  rfl,e0.bare,Un.kept hk,⟨_,x.toInCall.ns,fun i y v h1 h2 h3=>?_⟩,fun y c h=>⟨_,x.cell y c h⟩,e0.hok.fresh (Ag _),fun y c h=>?_,fun p hp=>absurd (show p∈([]:AL) from hp) (by simp),e0.hok.kept hk,?_⟩
 .exact name_of_addr x.apart (Cj h1) (Cj h2)
 .have hy:scope.names.lookup y=some .cell\/scope.names.lookup y=some .free:=hy
  rcases hy with hy|hy
  .exact JY hy
  .exact absurd rfl (S.nofree _ (Cj hy))
 .exact C8 (x.above y c (Cj h))
 .have hi:i<vs.length:=by
   unfold start at h2
   by_cases hi:i<vs.length
   .exact hi
   .rw[Bo (by simpa using hi)]at h2
    rw[Fj]at h2
    split at h2<;>cases h2
  have ha:vs[i]? =some v:=by
   unfold start at h2;rw[A8 (by simpa using hi),A9]at h2
   cases e:vs[i]? with
   |none=>rw[e]at h2;cases h2
   |some a=>rw[e]at h2;cases h2;rfl
  obtain⟨u,hu,rv⟩:=r.get ha;have hp:ps[i]? =some y:=by
   rw[<-S.pre,Ck (by lia)];exact h1
  have ndP:ps.Nodup:=by rw[<-S.pre];exact S.nd.sublist (List.take_sublist _ _)
  refine⟨u,rv,?_⟩
  rcases S.par y (Ap hp) with k|k
  .exact .inl ⟨k,JW ndP hp hu k⟩
  .obtain⟨c,e⟩:=JY (n:=s.heap.objs.size+1) k
   refine .inr ⟨.inl k,c,e,?_⟩
   have q:=x.cell y c e;rw[JX ndP hp hu (by show scope.names.lookup y≠_;rw[k];decide)]at q
   exact q
 .exact e0.hok.fresh (C8 (x.above y c (Cj h)))
 .unfold start
  show _=N.length;rw[Av,Ah,Dd];lia
def Ov {CX:qw} {P:Program} {w:World} {K:FG} {mg:Str->Option Value} {base:Heap} {k:Nat} {f:Addr} {name qual:Str} {params:Arguments} {body:List Stmt} {scope:Scope} {dV kV doc pm cdv ct oc:Value} {an od:Option Addr}
  {osl:Array (Option Value)} {N ps:List Str} {sp:Sp} (lk:K.lookup f=some ⟨oc,od,.func (PySem.W.fnOf name qual params body scope dV kV doc pm an cdv ct),osl⟩) (hcd:PySem.W.codeIn K cdv qual=true) (S:FnScope N ps scope)
  (len:∀vs H Q E,sp vs H Q E->vs.length=ps.length)
  (hbody:∀(A:Around) (outer:List Env) (s:Shared) (H:Hp) (vs:List V) (Q:VK) (E:XK),Room k (A.deeper (envOfC qual scope s.heap.objs.size f cdv))->sp vs H Q E->
   ∃t,yj (yk CX P w K mg base N qual scope f cdv A outer s H E) body t/\t {nx:=fun _ H'=>Q .non H',rt:=Q} (start N vs) H):
  FnOk P w K mg base CX (k+1) f (PySem.W.fnOf name qual params body scope dV kV doc pm an cdv ct) ps sp:=by
 refine⟨len,fun A outer s H args us vs Q E hr e0 hb r hsp=>?_⟩
 have hl:=len _ _ _ _ hsp;have KX:K.In s.heap:=e0.mod.kin.keeps fun b o e=>(e0.bs b o e).1
 have lim:s.heap.NoLimit:=e0.mod.nolimit.keeps fun b o e=>(e0.bs b o e).1
 have hkind:∀y∈ps.zip us,scope.names.lookup y.1=some .local\/(scope.names.lookup y.1=some .cell/\((cellsFrom (s.heap.objs.size+1) scope.names []).lookup y.1).isSome=true):=fun ⟨n,v⟩ hy=>by
  rcases S.par n (List.of_mem_zip hy).1 with q|q
  .exact .inl q
  .exact .inr ⟨q,PySem.W.cellsFrom_some _ _ _ (.inl q)⟩
 refine codeAny_call_function hr.depth (KX _ _ lk) rfl S.co S.gen rfl (PySem.W.codeRec_of KX hcd) (hb _ _ _ _ ?_)
 refine wpAny_newFunctionEnv_cells S.kind hkind fun env he s1 x=>?_
 subst he
 refine⟨lim.keeps x.toInCall.keep,codeAny_func ?_⟩
 obtain⟨t,ht,hq⟩:=hbody A outer s H vs Q E (hr.deeper _) hsp;have I:Inv (yk CX P w K mg base N qual scope f cdv A outer s H E) [] (start N vs) H s1:=Ou S hr.hd e0 hl r x
 refine Bj (ht [] s1 (start N vs) H _ I hq) (fun fl s' hs=>?_) fun e s' hs=>hs
 have zW:∀{σ':St} {H':Hp} {v:V} {u:Value},Inv (yk CX P w K mg base N qual scope f cdv A outer s H E) [] σ' H' s'->RelV v u->Q v H'->CE outer P w H s Q u s':=
  fun {σ' H' v u} J rv q=>⟨v,H',J.os,J.bare,J.base,J.hok,rv,q⟩
 cases fl with
 |ret u=>
  obtain⟨v,σ',H',J,rv,q⟩:=hs;exact zW J rv q
 |next=>
  obtain⟨σ',H',J,q⟩:=hs;exact zW (v:=V.non) (u:=Value.none) J rfl q
 |brk=>
  obtain⟨_,_,_,q⟩:=hs;exact False.elim q
 |cont=>
  obtain⟨_,_,_,q⟩:=hs;exact False.elim q
section
variable {X:Cx} {x:Str} {p pos:Pos} {e:Expr} {es:List Expr} {t:TA} {id T:String} {r:List V->Hp->VK->Prop}
def tCB (r:List V->Hp->VK->Prop) (t:TA):TE:=fun σ H Q=>t σ H fun vs H1=>r vs H1 Q
def Ow (hc:yy X (.builtin id) r) (hg:Gl X x) (hm:X.mg x=none) (hv:bootBuiltins x=some (.builtin id)) (ha:PA X (e::es) t) (hn:x≠"__name__" :=by decide) (hdb:(x==("__debug__" :Str))=false:=by decide)
  (he:SE X e es:=by rfl) (hpl:BA X pos es:=by rfl):PE X (.Call (.Name x p) (e::es) [] pos) (tCB r t):=by
 intro pins s σ H Q I h
 refine Cy (AM I hg hm hv ?_ hn hdb)
 exact PyProof.Rows.callWith_builtin1 (thn (ha pos pins s σ H _ I h) fun us s1 ⟨vs,H1,I1,r1,q1⟩=>hc pins s1 σ H1 vs us Q I1 r1 q1) he hpl
def Ox (hc:yy X (.type T) r) (hg:Gl X x) (hm:X.mg x=none) (hv:bootBuiltins x=some (.type T)) (ha:PA X (e::es) t) (hn:x≠"__name__" :=by decide) (hdb:(x==("__debug__" :Str))=false:=by decide)
  (he:SE X e es:=by rfl) (hpl:BA X pos es:=by rfl):PE X (.Call (.Name x p) (e::es) [] pos) (tCB r t):=by
 intro pins s σ H Q I h
 refine Cy (AM I hg hm hv ?_ hn hdb)
 exact Do (thn (ha pos pins s σ H _ I h) fun us s1 ⟨vs,H1,I1,r1,q1⟩=>hc pins s1 σ H1 vs us Q I1 r1 q1) he hpl
end
end L2
namespace HT
open PySem PyProof.Rows
section
variable {prog:Program} {w:World} {A:Around} {E:VP} {s:Shared}
def sIx (n d:Nat):Option Int->Nat
 |none=>d
 |some v=>if v<0 then (v+(n:Int)).toNat else min v.toNat n
def Oy (n d:Nat) (hd:d<=n) (o:Option Int):sIx n d o<=n:=by
 cases o with
 |none=>exact hd
 |some v=>
  show (if v<0 then (v+(n:Int)).toNat else min v.toNat n)<=n
  by_cases hv:v<0
  .rw[Aa hv];lia
  .rw[Ac hv];exact Nat.min_le_right _ _
def JZ (v:Int) (n d:Nat):(if v<0 then max (v+(n:Int)) 0 else min v (n:Int))=((sIx n d (some v):Nat):Int):=by
 show (if v<0 then max (v+(n:Int)) 0 else min v (n:Int))=(((if v<0 then (v+(n:Int)).toNat else min v.toNat n):Nat):Int)
 by_cases hv:v<0
 .simp only[Aa hv];lia
 .simp only[Ac hv];lia
def Oz (lo hi:Option Int) (n:Nat):Builtin.Slice.sliceAdjust lo hi 1 (n:Int)=(((sIx n 0 lo:Nat):Int),((sIx n n hi:Nat):Int)):=by
 have h1: ¬((1:Int)<0):=by lia
 unfold Builtin.Slice.sliceAdjust;simp only[h1,Bx]
 refine Prod.ext ?_ ?_
 .cases lo with
  |none=>rfl
  |some v=>exact JZ v n 0
 .cases hi with
  |none=>rfl
  |some v=>exact JZ v n n
def O0 (i j:Nat):Builtin.Slice.slicePlaces (i:Int) (j:Int) 1=j-i:=by
 unfold Builtin.Slice.slicePlaces;have h1:(1:Int) > 0:=by lia
 simp only[h1,By,Int.ediv_one]
 split<;>lia
def Ka {v:Value} {o:Option Int} {Q:Option Int->Shared->Prop} (p:IsPart v o) (h:Q o s):wpAny (model prog w) A (Builtin.Slice.slicePartIndex v) Q E s:=by
 cases p with
 |none=>exact slicePart_none h
 |int i t=>exact slicePart_int h
def O1 {sl:Addr} {vl vu:Value} {lo hi:Option Int} {n:Nat} {Q:Int×Int×Nat->Shared->Prop} (hs:s.heap.IsSliceOf sl vl vu .none) (pl:IsPart vl lo) (pu:IsPart vu hi)
  (h:Q (((sIx n 0 lo:Nat):Int),1,sIx n n hi-sIx n 0 lo) s):wpAny (model prog w) A (Builtin.Slice.sliceApplied (.ref sl) (pure (n:Int))) Q E s:=by
 obtain⟨os,hos,hcs,hds⟩:=id hs;unfold Builtin.Slice.sliceApplied Builtin.Slice.sliceFields
 refine Ab (Ab (Cz hos hds (x:=vl) rfl (Ab (Cz hos hds (x:=vu) rfl (Ab (Cz hos hds (x:= .none) rfl (Ad ?_)))))))
 refine Ab (slicePart_none ?_)
 show wpAny _ _ (if ((1:Int)==0)=true then _ else _) _ _ s
 rw[Ac (by decide)]
 refine Ab (Ka pl (Ab (Ka pu (Ab (Ad ?_)))))
 show wpAny _ _ (match Builtin.Slice.sliceAdjust lo hi 1 (n:Int) with|(lo,hi)=>pure (lo,(1:Int),Builtin.Slice.slicePlaces lo hi 1)) _ _ s
 rw[Oz lo hi n];show wpAny _ _ (pure (((sIx n 0 lo:Nat):Int),(1:Int),Builtin.Slice.slicePlaces ((sIx n 0 lo:Nat):Int) ((sIx n n hi:Nat):Int) 1)) _ _ s;rw[O0];exact Ad h
def O2 (xs:Array Value) (i k:Nat):((List.range k).filterMap fun (m:Nat)=>xs[((i:Int)+(m:Int)*1).toNat]?).toArray=((xs.toList.drop i).take k).toArray:=by
 have e:(fun (m:Nat)=>xs[((i:Int)+(m:Int)*1).toNat]?)=fun m=>xs[i+m]? :=by
  funext m
  have:((i:Int)+(m:Int)*1).toNat=i+m:=by lia
  rw[this]
 rw[e];have:=pick_run xs i k;rw[List.filterMap_map]at this;have e2:((fun x=>xs[x]?)∘fun x=>i+x)=fun m=>xs[i+m]? :=rfl
 rw[e2]at this;rw[this]
def getItem_tuple_cut {t sl:Addr} {items:Array Value} {vl vu:Value} {lo hi:Option Int} {Q:VP} (ht:IsTup s.heap t items) (hs:s.heap.IsSliceOf sl vl vu .none) (pl:IsPart vl lo) (pu:IsPart vu hi)
  (hw: ¬(sIx items.size 0 lo=0/\sIx items.size items.size hi=items.size))
  (h:Q (.ref s.heap.objs.size) {s with heap:=s.heap.push {cls:= .type "tuple",data:= .seq ((items.toList.drop (sIx items.size 0 lo)).take (sIx items.size items.size hi-sIx items.size 0 lo)).toArray}})
  (hsz:items.size<=sizeLine):wpAny (model prog w) A (getItem (.ref t) (.ref sl)) Q E s:=by
 have htake:sizeOk (.seq ((items.toList.drop (sIx items.size 0 lo)).take (sIx items.size items.size hi-sIx items.size 0 lo)).toArray):=by
  show ((items.toList.drop (sIx items.size 0 lo)).take (sIx items.size items.size hi-sIx items.size 0 lo)).toArray.size<=sizeLine;rw[Ak,Bc,Et,Cc];lia
 have hj:sIx items.size items.size hi<=items.size:=Oy _ _ (Ag _) hi;obtain⟨os,hos,hcs,hds⟩:=id hs;have hTs:s.TypeIs (.ref sl) "slice" :=⟨os,hos,hcs⟩;unfold getItem
 try with_reducible refine Cd ?_
 first|refine Ab (Ad ?_)|skip
 refine Ab (wpAny_sequenceKey ht.typeIs (by decide) ?_)
 refine Ab (Fl (name:=Str.ofString "__getitem__") ht.typeIs Fo
  (Dr Fo ht.typeIs entry_tuple_getitem ?_ (args_tuple_getitem _ _)))
 show wpAny _ _ (Builtin.Tuple.tupleItemsOf (.ref t) >>=_) _ _ s
 refine Ab (tupleItemsOf_ ht ?_)
 refine Ab (wpAny_typeOf hTs ?_)
 rw[Aa (by decide)]
 refine Ab (O1 hs pl pu ?_)
 have hno: ¬((((sIx items.size 0 lo:Nat):Int)==0 && (1:Int)==1 && (sIx items.size items.size hi-sIx items.size 0 lo)==items.size)=true):=by
  intro q;rw[Ar,Ar]at q;have q1:((sIx items.size 0 lo:Nat):Int)=0:=eq_of_beq q.1.1;have q2:sIx items.size items.size hi-sIx items.size 0 lo=items.size:=eq_of_beq q.2;exact hw ⟨by lia,by lia⟩
 show wpAny _ _ (if (((sIx items.size 0 lo:Nat):Int)==0 && (1:Int)==1 && (sIx items.size items.size hi-sIx items.size 0 lo)==items.size)=true then _ else _) _ _ s
 rw[Ac hno,O2]
 first
  |exact Ab (m:=Builtin.Tuple.tupleExact _) (B6 (Ad ⟨_,rfl,Ad h⟩) htake)
  |exact Ab (m:=Builtin.Tuple.tupleExact _) (B6 (Ab (Ad (Ad ⟨_,rfl,Ad h⟩))) htake)
  |exact Ab (Ab (m:=Builtin.Tuple.tupleExact _) (B6 (Ad (Ad ⟨_,rfl,Ad h⟩)) htake))
  |exact Ab (Ab (m:=Builtin.Tuple.tupleExact _) (B6 (Ad ⟨_,rfl,Ad h⟩) htake))
end
end HT
namespace L2
open PySem PySem.Spec PyProof.Rows
abbrev TO:=St->Hp->(Option Int->Hp->Prop)->Prop
def PO (X:Cx) (e:Option Expr) (t:TO):Prop:=
 ∀(pins:AL) (s:Shared) (σ:St) (H:Hp) (Q:Option Int->Hp->Prop),Inv X pins σ H s->t σ H Q->
  wpAny (model X.prog X.w) X.A (evalPart e X.env) (fun u s'=> ∃o H',Inv X pins σ H' s'/\IsPart u o/\Q o H') X.xe s
def O4:TO:=fun _ H Q=>Q none H
def O5 (t:TE):TO:=fun σ H Q=>t σ H fun x H1=> ∃i,x=.int i/\Q (some i) H1
section
variable {X:Cx} {e:Expr} {te:TE} {lo hi:Option Expr} {tl th:TO} {pos p2:Pos}
def O6:PO X none O4:=by
 intro pins s σ H Q I h;rw[evalPart_none];exact Ad ⟨none,H,I,.none,h⟩
def O7 (h:PE X e te):PO X (some e) (O5 te):=by
 intro pins s σ H Q I hw;rw[evalPart_some]
 refine thn (h pins s σ H _ I hw) fun u s1 ⟨x,H1,I1,r1,q1⟩=>?_
 obtain⟨i,rfl,q⟩:=q1;obtain⟨t,rfl⟩:=r1;exact⟨some i,H1,I1,.int i t,q⟩
def SlR (X:Cx) (r:V->Option Int->Option Int->Hp->VK->Prop):Prop:=
 ∀(pins:AL) (s:Shared) (σ:St) (H:Hp) (x:V) (v vl vu:Value) (lo hi:Option Int) (sl:Addr) (Q:VK),Inv X pins σ H s->RelV x v->s.heap.IsSliceOf sl vl vu .none->IsPart vl lo->IsPart vu hi->r x lo hi H Q->
  ∃T id,typeLookup (.type T) "__getitem__" =pure (some (.builtin id))/\s.TypeIs v T/\wpAny (model X.prog X.w) X.A (getItem v (.ref sl)) (EP X pins σ Q) X.xe s
def SlR.or {r r':V->Option Int->Option Int->Hp->VK->Prop} (h:SlR X r) (h':SlR X r'):SlR X (fun x lo hi H Q=>r x lo hi H Q\/r' x lo hi H Q):=by
 intro pins s σ H x v vl vu lo hi sl Q I rx hs pl pu q
 rcases q with q|q
 .exact h pins s σ H x v vl vu lo hi sl Q I rx hs pl pu q
 .exact h' pins s σ H x v vl vu lo hi sl Q I rx hs pl pu q
def tSl (r:V->Option Int->Option Int->Hp->VK->Prop) (te:TE) (tl th:TO):TE:=fun σ H Q=>te σ H fun x H1=>tl σ H1 fun l H2=>th σ H2 fun u H3=>r x l u H3 Q
theorem O8 {r:V->Option Int->Option Int->Hp->VK->Prop} (hr:SlR X r) (he:PE X e te) (hl:PO X lo tl) (hu:PO X hi th):PE X (.Subscript e (.Slice lo hi none p2) pos) (tSl r te tl th):=by
 intro pins s σ H Q I h
 refine Subscript_ (thn (he pins s σ H _ I h) fun v s1 ⟨x,H1,I1,r1,q1⟩=>?_)
 refine wpAny_Slice (thn (hl pins s1 σ H1 _ I1 q1) fun vl s2 ⟨l,H2,I2,pl,q2⟩=>thn (hu pins s2 σ H2 _ I2 q2) fun vu s3 ⟨u,H3,I3,pu,q3⟩=>?_)
 rw[evalPart_none]
 refine Ad ?_
 have I4:Inv X pins σ H3 {s3 with heap:=s3.heap.push {cls:= .type "slice",data:= .fields #[vl,vu,.none]}}:=I3.kept (t':=s3.toks) fun b ob q=>Ao _ q
 obtain⟨T,id,hT,ht,hg⟩:=hr pins {s3 with heap:=s3.heap.push {cls:= .type "slice",data:= .fields #[vl,vu,.none]}} σ H3 x v vl vu l u s3.heap.objs.size Q I4 r1 (Heap.IsSliceOf.new ..) pl pu q3
 show wpAny (model X.prog X.w) X.A (subscriptTail e (.Slice lo hi none p2) v (.ref s3.heap.objs.size)) (EP X pins σ Q) X.xe {s3 with heap:=s3.heap.push {cls:= .type "slice",data:= .fields #[vl,vu,.none]}}
 exact tail_any (ops:=[.ref s3.heap.objs.size,v]) ht hT hg (by with_unfolding_all rfl)
def cutV (xs:List V) (lo hi:Option Int):List V:=(xs.drop (HT.sIx xs.length 0 lo)).take (HT.sIx xs.length xs.length hi-HT.sIx xs.length 0 lo)
def Kb (xs:List V) (lo hi:Option Int):(cutV xs lo hi).length<=xs.length:=by
 unfold cutV;rw[Bc,Et];lia
def rSlT (K:FG):V->Option Int->Option Int->Hp->VK->Prop:=fun x lo hi H Q=> ∃a xs,x=.ref a/\SqT K H a xs/\
 ¬(HT.sIx xs.length 0 lo=0/\HT.sIx xs.length xs.length hi=xs.length)/\∀p,H p=none->Q (.ref p) (zi H p (.tup (cutV xs lo hi)))
def sl_tup:SlR X (rSlT X.K):=by
 intro pins s σ H x v vl vu lo hi sl Q I rx hs pl pu h;obtain⟨a,xs,rfl,hx,hw,q⟩:=h;cases rx;obtain⟨its,r,ht,hz⟩:=I.tuple hx;have hlen:its.toArray.size=xs.length:=by rw[Ak];exact r.length.symm
 refine⟨"tuple",_,Fo.lookup,ht.typeIs,?_⟩
 refine HT.getItem_tuple_cut ht hs pl pu (by rw[hlen];exact hw) ?_ (by rw[hlen];exact hz)
 rw[hlen]
 refine⟨.ref s.heap.objs.size,_,I.laid (t':=s.toks) (o:= .tup (cutV xs lo hi)) (fun b ob q=>Ao _ q) (Ag _) ?_,rfl,q _ (I.hok.fresh (Ag _))⟩
 exact⟨Bi (Kb xs lo hi) hz,_,(r.drop (HT.sIx xs.length 0 lo)).take (HT.sIx xs.length xs.length hi-HT.sIx xs.length 0 lo),IsTup.new _ _⟩
end
def yA (n:Nat) (i:Int):Option Nat:=if 0<=i then (if i<n then some i.toNat else none) else if -(n:Int)<=i then some (i+n).toNat else none
def atI {α:Type} (xs:List α) (i:Int):Option α:=(yA xs.length i).bind fun j=>xs[j]?
def Kc {n:Nat} {i:Int} {j:Nat} (h:yA n i=some j):seqIndex? i n=some j/\j<n/\ -(n:Int)<=i/\i<n:=by
 unfold yA at h
 by_cases h0:0<=i
 .rw[Aa h0]at h
  by_cases h1:i<n
  .rw[Aa h1]at h
   have e:i.toNat=j:=Option.some.inj h;exact⟨by rw[seqIndex_of h0 h1,e],by lia,by lia,h1⟩
  .rw[Ac h1]at h;cases h
 .rw[Ac h0]at h
  by_cases h1: -(n:Int)<=i
  .rw[Aa h1]at h
   have e:(i+n).toNat=j:=Option.some.inj h;exact⟨by rw[seqIndex_neg (by lia) h1,e],by lia,h1,by lia⟩
  .rw[Ac h1]at h;cases h
def Hx {α:Type} {xs:List α} {i:Int} {v:α} (h:atI xs i=some v):∃j,seqIndex? i xs.length=some j/\xs[j]? =some v/\j<xs.length/\ -(xs.length:Int)<=i/\i<xs.length:=by
 unfold atI at h;cases e:yA xs.length i with
 |none=>rw[e]at h;cases h
 |some j=>
  rw[e]at h;obtain⟨h1,h2,h3,h4⟩:=Kc e;exact⟨j,h1,h,h2,h3,h4⟩
def AA {α:Type} {xs:List α} {j:Nat} {v:α} (h:xs[j]? =some v):atI xs (j:Int)=some v:=by
 have hj:j<xs.length:=(An.mp h).1;have e:yA xs.length (j:Int)=some j:=by
  unfold yA;rw[Aa (by lia),Aa (by lia)];simp
 unfold atI;rw[e];exact h
def O9 {α:Type} (xs:List α) (v:α):atI (xs++[v]) (-1)=some v:=by
 have hl:(xs++[v]).length=xs.length+1:=by simp
 have e:yA (xs++[v]).length (-1)=some xs.length:=by
  unfold yA;rw[hl,Ac (by decide),Aa (by lia)]
  congr 1
  lia
 unfold atI;rw[e];show (xs++[v])[xs.length]? =some v;simp
def Gw (b:Expr):Prop:=∀o i,subscripted b false o i=operate [o,i] (getItem o i)
def IxR (X:Cx) (r:R2):Prop:=
 ∀(value slice:Expr) (pins:AL) (s:Shared) (σ:St) (H:Hp) (x y:V) (v u:Value) (Q:VK),Inv X pins σ H s->RelV x v->RelV y u->r x y H Q->
  subscripted slice false v u=operate [v,u] (getItem v u)->wpAny (model X.prog X.w) X.A (subscriptTail value slice v u) (EP X pins σ Q) X.xe s
def MtR (X:Cx) (id:String) (r:V->List V->Hp->VK->Prop):Prop:=
 ∀(pins:AL) (s:Shared) (σ:St) (H:Hp) (x:V) (xs:List V) (v:Value) (us:List Value) (Q:VK),Inv X pins σ H s->RelV x v->Vals xs us->r x xs H Q->
  wpAny (model X.prog X.w) X.A (call (.builtin id) (v::us)) (EP X pins σ Q) X.xe s
section
variable {X:Cx} {a b:Expr} {ta tb:TE} {pos:Pos}
def IxR.or {r r':R2} (h:IxR X r) (h':IxR X r'):IxR X (fun x y H Q=>r x y H Q\/r' x y H Q):=by
 intro value slice pins s σ H x y v u Q I rx ry q hs
 rcases q with q|q
 .exact h value slice pins s σ H x y v u Q I rx ry q hs
 .exact h' value slice pins s σ H x y v u Q I rx ry q hs
def OA {r:R2} (hr:IxR X r) (ha:PE X a ta) (hb:PE X b tb) (hs:Gw b):PE X (.Subscript a b pos) (tOp r ta tb):=by
 intro pins s σ H Q I h;exact Subscript_ (binT ha hb I h fun v u s2 x y H2 I2 rx ry q=>hr a b pins s2 σ H2 x y v u Q I2 rx ry q (hs _ _))
def rIxL (K:FG):R2:=fun x y H Q=> ∃p xs i v,x=.ref p/\y=.int i/\SqL K H p xs/\atI xs i=some v/\Q v H
def rIxT (K:FG):R2:=fun x y H Q=> ∃p xs i v,x=.ref p/\y=.int i/\SqT K H p xs/\atI xs i=some v/\Q v H
def rIxS:R2:=fun x y H Q=> ∃z i c,x=.str z/\y=.int i/\z.length<=sizeLine/\atI z.cps.toList i=some c/\Q (.str ⟨#[c]⟩) H
def ix_list:IxR X (rIxL X.K):=by
 intro value slice pins s σ H x y v u Q I rx ry h hs;obtain⟨p,xs,i,z,rfl,rfl,hq,he,q⟩:=h;cases rx;obtain⟨t,rfl⟩:=ry;obtain⟨its,r,pl,hz⟩:=I.list hq;obtain⟨j,h1,h2,h3,h4,h5⟩:=Hx he;obtain⟨w,ew,rw'⟩:=r.get h2;have hl:=r.length;have hn:=DG;have zW:EP X pins σ Q w s:=⟨z,H,I,rw',q⟩
 by_cases h0:0<=i
 .have hj:i.toNat=j:=by
   rw[seqIndex_of h0 h5]at h1;exact Option.some.inj h1
  exact item_listR pl.isList h0 (by lia) (by rw[hj];simpa using ew) zW hs
 .have hj:(i+(its.toArray.size:Int)).toNat=j:=by
   rw[seqIndex_neg (by lia) h4]at h1
   rw[Ak,<-hl];exact Option.some.inj h1
  exact subscriptTail_builtinR (x:=w) pl.isList.typeIs slot_list_getitem.lookup
   (wpAny_getItem_list_neg (Q:=fun r s'=>r=w/\EP X pins σ Q r s') pl.isList (by lia) (by rw[Ak]<;>lia) (by lia) (by rw[hj];simpa using ew) ⟨rfl,zW⟩) hs
def ix_tup:IxR X (rIxT X.K):=by
 intro value slice pins s σ H x y v u Q I rx ry h hs;obtain⟨p,xs,i,z,rfl,rfl,hq,he,q⟩:=h;cases rx;obtain⟨t,rfl⟩:=ry;obtain⟨its,r,pl,hz⟩:=I.tuple hq;obtain⟨j,h1,h2,h3,h4,h5⟩:=Hx he;obtain⟨w,ew,rw'⟩:=r.get h2;have hl:=r.length;have hn:=DG;have zW:EP X pins σ Q w s:=⟨z,H,I,rw',q⟩;exact subscriptTail_builtinR (x:=w) pl.typeIs slot_tuple_getitem.lookup
  (getItem_tuple (j:=j) (Q:=fun r s'=>r=w/\EP X pins σ Q r s') pl (by lia) (by lia) (by rw[Ak,<-hl];exact h1) (by simpa using ew) ⟨rfl,zW⟩) hs
def OB:IxR X rIxS:=by
 intro value slice pins s σ H x y v u Q I rx ry h hs;obtain⟨z,i,c,rfl,rfl,hz,he,q⟩:=h;obtain⟨t,rfl⟩:=rx;obtain⟨t',rfl⟩:=ry;obtain⟨j,h1,h2,h3,h4,h5⟩:=Hx he;have hl:z.cps.toList.length=z.length:=by simp[Str.length]
 rw[hl]at h1 h4 h5;have hn:=DG;exact tail_any (typeIs_str s z t) slot_str_getitem.lookup (getItem_str (c:=c) (by
  have e1:decide (i < -(2 ^ 63:Int))=false:=Be (by lia)
  have e2:decide (i≥2 ^ 63)=false:=Be (by lia)
  rw[e1,e2,Ds]) (by rw[h1];simpa using h2) ⟨.str ⟨#[c]⟩,H,I.tok _,⟨_,rfl⟩,q⟩) hs
def OC (its:List Value) (n j:Nat) (u:Value):Obj.mapSeq (·.setIfInBounds j u) {cls:= .type "list",data:= .seq its.toArray n}={cls:= .type "list",data:= .seq (its.set j u).toArray n}:=by
 simp[Obj.mapSeq]
theorem Inv.lst {pins:AL} {σ:St} {H:Hp} {s:Shared} {p:Addr} {xs:List V} (I:Inv X pins σ H s) (h:H p=some (.lst xs)):
  ∃(its:List Value) (n:Nat),Vals xs its/\s.heap.get? p=some {cls:= .type "list",data:= .seq its.toArray n}/\xs.length<=sizeLine:=by
 obtain⟨z,its,n,r,e⟩:=I.hok p _ h;exact⟨its,n,r,e,z⟩
def Inv.lstUpd {pins:AL} {σ:St} {H:Hp} {s:Shared} {p:Addr} {xs ys:List V} {its its':List Value} {n n':Nat} {f:Obj->Obj} (I:Inv X pins σ H s) (h:H p=some (.lst xs))
  (ho:s.heap.get? p=some {cls:= .type "list",data:= .seq its.toArray n}) (hf:f {cls:= .type "list",data:= .seq its.toArray n}={cls:= .type "list",data:= .seq its'.toArray n'}) (r:Vals ys its') (hz:ys.length<=sizeLine) (t:Nat):
  Inv X pins σ (zi H p (.lst ys)) {s with heap:=s.heap.update p f,toks:=t}:=by
 have e:(s.heap.update p f).get? p=some {cls:= .type "list",data:= .seq its'.toArray n'}:=by
  rw[C1 f ho (by rw[hf]<;>rfl),hf]
 refine I.write (x:=p) (e:=p) (by rw[h];trivial) (.inl rfl) (fun b u hb q=>(Cm _ _ (A5 hb)).trans q) ⟨_,e⟩ ?_
 exact⟨hz,its',n',r,e⟩
def Hy:V->V->V->Hp->(Hp->Prop)->Prop:=fun o i v H Q=> ∃p xs k j,o=.ref p/\i=.int k/\H p=some (.lst xs)/\yA xs.length k=some j/\Q (zi H p (.lst (xs.set j v)))
def DI:PSet X Hy:=by
 intro pins s σ H o i v ov iv u Q I ro ri rv h;obtain⟨p,xs,k,j,rfl,rfl,hp,hj,q⟩:=h;cases ro;obtain⟨t,rfl⟩:=ri;obtain⟨its,n,r,ho,hz⟩:=I.lst hp;obtain⟨h1,h2,h3,h4⟩:=Kc hj;have hl:=r.length;have hn:=DG;have I':Inv X pins σ (zi H p (.lst (xs.set j v))) {s with heap:=s.heap.update p (Obj.mapSeq (·.setIfInBounds j u))}:=
  I.lstUpd hp ho (OC its n j u) (r.set rv j) (by rw[Bf];exact hz) s.toks
 by_cases h0:0<=k
 .have hk:k.toNat=j:=by
   rw[seqIndex_of h0 h4]at h1;exact Option.some.inj h1
  exact PySem.W.ki_setAt ho h0 (by lia) (by rw[Ak,<-hl];exact h4) (by rw[hk];exact⟨_,I',q⟩)
 .have hk:(k+(its.toArray.size:Int)).toNat=j:=by
   rw[seqIndex_neg (by lia) h3]at h1
   rw[Ak,<-hl];exact Option.some.inj h1
  exact PySem.W.ki_setBack ho (by lia) (by rw[Ak,<-hl];exact h3) (by lia) (by rw[hk];exact⟨_,I',q⟩)
def OD (lo hi:Option Int) (n:Nat):(sliceBounds lo hi none n).1=((HT.sIx n 0 lo:Nat):Int)/\(sliceBounds lo hi none n).2.1=((HT.sIx n n hi:Nat):Int)/\(sliceBounds lo hi none n).2.2=1:=by
 refine⟨?_,?_,rfl⟩
 .cases lo with
  |none=>simp[sliceBounds,HT.sIx]
  |some i=>
   simp only[sliceBounds,HT.sIx,Option.getD_none,show (1:Int) > 0 by decide,By]
   by_cases h:i<0
   .simp only[h,By]<;>lia
   .simp only[h,Bx]<;>lia
 .cases hi with
  |none=>simp[sliceBounds,HT.sIx]
  |some i=>
   simp only[sliceBounds,HT.sIx,Option.getD_none,show (1:Int) > 0 by decide,By]
   by_cases h:i<0
   .simp only[h,By]<;>lia
   .simp only[h,Bx]<;>lia
def OE (its:List Value) (lo hi:Option Int):slicePick its.toArray lo hi none=((its.drop (HT.sIx its.length 0 lo)).take (HT.sIx its.length its.length hi-HT.sIx its.length 0 lo)).toArray:=by
 obtain⟨h1,h2,h3⟩:=OD lo hi its.toArray.size;unfold slicePick;rw[h1,h2,h3];simp only[sliceRange_one,pick_run,Ak]<;>rfl
def rSlL (K:FG):V->Option Int->Option Int->Hp->VK->Prop:=fun x lo hi H Q=> ∃a xs,x=.ref a/\SqL K H a xs/\∀p,H p=none->Q (.ref p) (zi H p (.lst (cutV xs lo hi)))
def sl_list:SlR X (rSlL X.K):=by
 intro pins s σ H x v vl vu lo hi sl Q I rx hs pl pu h;obtain⟨a,xs,rfl,hx,q⟩:=h;cases rx;obtain⟨its,r,ht,hz⟩:=I.list hx;have hlen:=r.length
 refine⟨"list",_,slot_list_getitem.lookup,ht.isList.typeIs,?_⟩
 refine wpAny_getItem_list_slice ht.isList hs pl pu .none (by simp) ?_ (by rw[Ak]<;>lia)
 rw[OE,<-hlen]
 refine⟨.ref s.heap.objs.size,_,I.laid (t':=s.toks) (o:= .lst (cutV xs lo hi)) (fun b ob q=>Ao _ q) (Ag _) ?_,rfl,q _ (I.hok.fresh (Ag _))⟩
 exact⟨Bi (Kb xs lo hi) hz,_,0,(r.drop (HT.sIx xs.length 0 lo)).take (HT.sIx xs.length xs.length hi-HT.sIx xs.length 0 lo),A6 _ rfl⟩
def AR:V->Bool
 |.non=>true
 |.bl _=>true
 |.int _=>true
 |.str _=>true
 |_=>false
def eqV:V->V->Bool
 |.non,.non=>true
 |.bl a,.bl b=>a==b
 |.bl a,.int b=>(if a then 1 else 0)==b
 |.int a,.bl b=>a==(if b then 1 else 0)
 |.int a,.int b=>a==b
 |.str a,.str b=>a==b
 |_,_=>false
def Ke {A:Around} {s:Shared} {y x:V} {u v:Value} (ry:RelV y u) (rx:RelV x v) (fy:AR y=true) (fx:AR x=true):SeqAt.EqAt A s u v (eqV y x):=by
 cases y with
 |non=>
  cases ry;cases x with
  |non=>cases rx;exact SeqAt.EqAt.same _
  |bl b=>cases rx;exact SeqAt.EqAt.none_bool b
  |int b=>obtain⟨t,rfl⟩:=rx;exact SeqAt.EqAt.none_int b t
  |str b=>obtain⟨t,rfl⟩:=rx;exact SeqAt.EqAt.none_str b t
  |_=>exact absurd (show false=true from fx) A7
 |bl a=>
  cases ry;cases x with
  |non=>cases rx;exact SeqAt.EqAt.bool_none a
  |bl b=>cases rx;exact SeqAt.EqAt.bool_bool a b
  |int b=>obtain⟨t,rfl⟩:=rx;exact SeqAt.EqAt.bool_int a b t
  |str b=>obtain⟨t,rfl⟩:=rx;exact SeqAt.EqAt.bool_str a b t
  |_=>exact absurd (show false=true from fx) A7
 |int a=>
  obtain⟨t',rfl⟩:=ry;cases x with
  |non=>cases rx;exact SeqAt.EqAt.int_none a t'
  |bl b=>cases rx;exact SeqAt.EqAt.int_bool a t' b
  |int b=>obtain⟨t,rfl⟩:=rx;exact SeqAt.EqAt.int_int a t' b t
  |str b=>obtain⟨t,rfl⟩:=rx;exact SeqAt.EqAt.int_str a t' b t
  |_=>exact absurd (show false=true from fx) A7
 |str a=>
  obtain⟨t',rfl⟩:=ry;cases x with
  |non=>cases rx;exact SeqAt.EqAt.str_none a t'
  |bl b=>cases rx;exact SeqAt.EqAt.str_bool a t' b
  |int b=>obtain⟨t,rfl⟩:=rx;exact SeqAt.EqAt.str_int a t' b t
  |str b=>obtain⟨t,rfl⟩:=rx;exact SeqAt.EqAt.str_str a t' b t
  |_=>exact absurd (show false=true from fx) A7
 |_=>exact absurd (show false=true from fy) A7
def OF:yy X (.type "list") (fun xs H Q=> ∃p ys,xs=[.ref p]/\(SqL X.K H p ys\/SqT X.K H p ys)/\∀l,H l=none->Q (.ref l) (zi H l (.lst ys))):=by
 intro pins s σ H xs us Q I r h;obtain⟨p,ys,rfl,hq,q⟩:=h;obtain⟨u,rfl,rx⟩:=AQ r;cases rx;have zW:∀(its:List Value),Vals ys its->ys.length<=sizeLine->∀(h':Heap) (c':Nat),(∀b o',s.heap.get? b=some o'->h'.get? b=some o')->
   h'.get? s.heap.objs.size=some {cls:= .type "list",dict:=none,data:= .seq its.toArray c',slots:= #[]}->EP X pins σ Q (.ref s.heap.objs.size) {s with heap:=h'}:=fun its r' hz h' c' kp e=>
  ⟨.ref s.heap.objs.size,_,I.laid (t':=s.toks) kp (Ag _) (show ObjOk X.prog X.w _ h' _ (.lst ys) from ⟨hz,its,c',r',e⟩),rfl,q _ (I.hok.fresh (Ag _))⟩
 rcases hq with hq|hq
 .obtain⟨its,r',pl,hz⟩:=I.list hq
  have hlen:=r'.length;obtain⟨o,ho,hc,n,hd⟩:=pl.isList;exact call_list_seq p (.inl rfl) ho hc hd (fun h' c' kp e=>zW its r' hz h' c' kp e) (by simp only[Ak]<;>lia)
 .obtain⟨its,r',pl,hz⟩:=I.tuple hq
  have hlen:=r'.length;obtain⟨o,ho,hc,n,hd⟩:=pl;exact call_list_seq p (.inr rfl) ho hc hd (fun h' c' kp e=>zW its r' hz h' c' kp e) (by simp only[Ak]<;>lia)
def tyV (K:FG) (T:String) (x:V) (H:Hp):Prop:=match x with
 |.str _=>T="str"
 |.int _=>T="int"
 |.ref p=>(T="list" /\∃xs,SqL K H p xs)\/(T="tuple" /\∃o,K.lookup p=some o/\o.cls=.type "tuple" /\o.dict=none)\/
  (T="dict" /\((∃kvs,H p=some (.dK kvs))\/∃kvs,H p=some (.dT kvs)))\/(T="set" /\∃S n,H p=some (.set S n))
 |_=>False
def Kf {pins:AL} {σ:St} {H:Hp} {s:Shared} {T:String} {x:V} {v:Value} (I:Inv X pins σ H s) (r:RelV x v) (ty:tyV X.K T x H):
  s.TypeIs v T/\∀a,v=.ref a->∃ob,s.heap.get? a=some ob/\ob.dict=none:=by
 cases x with
 |str z=>
  obtain⟨t,rfl⟩:=r;cases (show T="str" from ty)
  exact⟨typeIs_str s z t,fun _ e=>nomatch e⟩
 |int i=>
  obtain⟨t,rfl⟩:=r;cases (show T="int" from ty)
  exact⟨typeIs_int s i t,fun _ e=>nomatch e⟩
 |ref p=>
  cases r
  rcases ty with ⟨rfl,xs,hq⟩|⟨rfl,o,hk,hc,hd⟩|⟨rfl,hk⟩|⟨rfl,S,n,hk⟩
  .obtain⟨its,_,pl,_⟩:=I.list hq
   refine⟨pl.isList.typeIs,fun a e=>?_⟩
   cases e;obtain⟨o,n,e,c,hd,_⟩:=pl;exact⟨o,e,hd⟩
  .refine⟨⟨o,I.kIn p o hk,hc⟩,fun a e=>?_⟩
   cases e;exact⟨o,I.kIn _ o hk,hd⟩
  .have z:∃o,s.heap.get? p=some o/\o.ExactDict:=by
    rcases hk with ⟨kvs,hk⟩|⟨kvs,hk⟩
    .obtain⟨_,_,_,_,o,_,_,e,ex,_⟩:=I.hok p _ hk
     exact⟨o,e,ex⟩
    .obtain⟨_,_,_,_,o,_,_,e,ex,_⟩:=I.hok p _ hk
     exact⟨o,e,ex⟩
   obtain⟨o,e,ex⟩:=z
   refine⟨⟨o,e,ex.1⟩,fun a e2=>?_⟩
   cases e2;exact⟨o,e,ex.2.1⟩
  .obtain⟨o,_,_,_,e,ex,_⟩:=I.hok p _ hk
   refine⟨⟨o,e,ex.1⟩,fun a e2=>?_⟩
   cases e2;exact⟨o,e,ex.2.1⟩
 |_=>exact False.elim ty
def tBM0 (K:FG) (T:String) (r:V->List V->Hp->VK->Prop) (to:TE):TE:=fun σ H Q=>to σ H fun x H1=>tyV K T x H1/\r x [] H1 Q
def tBM (K:FG) (T:String) (r:V->List V->Hp->VK->Prop) (to:TE) (t:TA):TE:=fun σ H Q=>to σ H fun x H1=>tyV K T x H1/\t σ H1 fun xs H2=>r x xs H2 Q
variable {o e:Expr} {es:List Expr} {to:TE} {t:TA} {name:Str} {apos cpos:Pos} {T id:String} {r:V->List V->Hp->VK->Prop}
def OG (pa:PlainAttrs T) (slot:Slot T name id) (hty:typeOf (.builtin id)=pure (.type "method_descriptor")) (hm:MtR X id r) (ho:PE X o to)
  (hbase:attributeBase o name X.env (eval o X.env)=eval o X.env:=by rfl) (hline:(apos.endLine==cpos.line)=true:=by rfl):PE X (.Call (.Attribute o name apos) [] [] cpos) (tBM0 X.K T r to):=by
 intro pins s σ H Q I h
 refine wpAny_Call_method0_late hbase hline (thn (ho pins s σ H _ I h) fun v s1 ⟨x,H1,I1,r1,ty,q1⟩=>?_)
 obtain⟨h1,h2⟩:=Kf I1 r1 ty;exact⟨T,id,pa,slot,hty,h1,h2,Fp rfl (PySem.evalArgs_none (hm pins s1 σ H1 x [] v [] Q I1 r1 .nil q1))⟩
def OH (pa:PlainAttrs T) (slot:Slot T name id) (hty:typeOf (.builtin id)=pure (.type "method_descriptor")) (hm:MtR X id r) (ho:PE X o to) (ha:PA X (e::es) t)
  (hbase:attributeBase o name X.env (eval o X.env)=eval o X.env:=by rfl)
  (hfew:((backTo cpos (starEach (e::es) X.env)).all (fun x=> !x.1) && (backToKw cpos (keywordEach [] X.env)).all (fun x=>x.1.isSome)
   && decide ((e::es).length+([]:List Keyword).length+(if ([]:List Keyword).isEmpty then 0 else 1)<30))=true:=by rfl)
  (hline:(apos.endLine==cpos.line)=true:=by rfl) (hs:SE X e es:=by rfl) (hplain:(backTo cpos (starEach es X.env)).any (·.1)=false:=by rfl):
  PE X (.Call (.Attribute o name apos) (e::es) [] cpos) (tBM X.K T r to t):=by
 intro pins s σ H Q I h
 refine wpAny_Call_method_late hbase hfew hline rfl (thn (ho pins s σ H _ I h) fun v s1 ⟨x,H1,I1,r1,ty,q1⟩=>?_)
 obtain⟨h1,h2⟩:=Kf I1 r1 ty
 refine⟨T,id,pa,slot,hty,h1,h2,?_⟩
 have hA:=ha cpos pins s1 σ H1 _ I1 q1;rw[hs]at hA ⊢
 refine Fp (by show (false || (backTo cpos (starEach es X.env)).any (·.1))=false;rw[hplain]<;>rfl) (Fq ?_)
 exact thn hA fun us s2 ⟨vs,H2,I2,r2,q2⟩=>hm pins s2 σ H2 x vs v us Q I2 r1 r2 q2
end
def MtM (X:Cx) (id:String) (r:V->List V->Hp->VK->Prop):Prop:=
 ∀(pins:AL) (s:Shared) (σ:St) (H:Hp) (x:V) (xs:List V) (v:Value) (us:List Value) (Q:VK),Inv X pins σ H s->RelV x v->Vals xs us->r x xs H Q->
  wpAny (model X.prog X.w) X.A (call (.builtin id) (v::us)) (EP X pins σ Q) X.xe s
def Vals.one:∀{x:V} {us:List Value},Vals [x] us->∃u,us=[u]/\RelV x u
 |_,_,.cons r .nil=>⟨_,rfl,r⟩
def Vals.zero:∀{us:List Value},Vals [] us->us=[]
 |_,.nil=>rfl
theorem Vals.dropLast {xs:List V} {us:List Value} (h:Vals xs us):Vals xs.dropLast us.dropLast:=by
 induction h with
 |nil=>exact .nil
 |cons r t ih=>
  cases t with
  |nil=>exact .nil
  |cons q t'=>exact .cons r ih
theorem Vals.rep {xs:List V} {us:List Value} (h:Vals xs us):∀k:Nat,Vals (List.replicate k xs).flatten (List.replicate k us).flatten
 |0=>.nil
 |k+1=>by
  rw[De,De,Dt,Dt];exact Vals.append h (Vals.rep h k)
def OI {α:Type} (l:List α):l.eraseIdx (l.length-1)=l.dropLast:=by
 induction l with
 |nil=>rfl
 |cons a r ih=>
  cases r with
  |nil=>rfl
  |cons b r=>
   have e:(a::b::r).length-1=((b::r).length-1)+1:=by
    have h1:(a::b::r).length=r.length+2:=rfl;have h2:(b::r).length=r.length+1:=rfl;lia
   rw[e,List.eraseIdx_cons_succ,ih]
   all_goals rfl
theorem Kg (its:List Value):∀(k:Nat) (acc:List Value),
  List.foldl (fun x1 x2=>x1++x2) acc.toArray (List.replicate k its.toArray)=(acc++(List.replicate k its).flatten).toArray
 |0,acc=>by simp
 |k+1,acc=>by
  have e:acc.toArray++its.toArray=(acc++its).toArray:=by simp
  have e2:(acc++its)++(List.replicate k its).flatten=acc++(List.replicate (k+1) its).flatten:=by
   rw[De,Dt,Ed]
  rw[<-e2,<-Kg its k (acc++its),<-e,De,Eu]
section
variable {X:Cx} {pins:AL} {σ:St} {H:Hp} {s:Shared} {l b:Addr} {xs ys zs:List V}
def Inv.lset {its its':List Value} {n:Nat} {f:Array Value->Array Value} {t':Nat} (I:Inv X pins σ H s) (hH:H l=some (.lst xs))
  (e:s.heap.get? l=some {cls:= .type "list",data:= .seq its.toArray n}) (hf:f its.toArray=its'.toArray) (hv:Vals ys its') (hz:ys.length<=sizeLine):
  Inv X pins σ (zi H l (.lst ys)) {s with heap:=s.heap.update l (Obj.mapSeq f),toks:=t'}:=by
 have q:=PySem.IsL.update e f;rw[hf]at q
 refine I.write (x:=l) (e:=l) (by rw[hH];exact trivial) (.inl rfl) (fun b' u hb hu=>(Cm s.heap (Obj.mapSeq f) (A5 hb)).trans hu) ⟨_,q⟩ ?_
 exact⟨hz,its',_,hv,q⟩
def Inv.lnew {its:List Value} {t':Nat} (I:Inv X pins σ H s) (hv:Vals ys its) (hz:ys.length<=sizeLine):
  Inv X pins σ (zi H s.heap.objs.size (.lst ys)) {s with heap:=s.heap.push {cls:= .type "list",data:= .seq its.toArray},toks:=t'}:=
 I.laid (fun _ _ q=>Ao _ q) (Ag _) ⟨hz,its,0,hv,A6 _ rfl⟩
theorem Inv.fresh (I:Inv X pins σ H s):H s.heap.objs.size=none:=I.hok.fresh (Ag _)
def Inv.lstM (I:Inv X pins σ H s) (hH:H l=some (.lst xs)):xs.length<=sizeLine/\∃(its:List Value) (n:Nat),Vals xs its/\xs.length=its.length/\s.heap.get? l=some {cls:= .type "list",data:= .seq its.toArray n}:=by
 obtain⟨z,its,n,r,e⟩:=I.hok l _ hH;exact⟨z,its,n,r,r.length,e⟩
def Kh {n:Nat} (h:n<=sizeLine):Builtin.List.listTooLong n=false:=by
 unfold Builtin.List.listTooLong;exact Be (by lia)
end
section
variable {X:Cx}
def Ki:V->List V->Hp->VK->Prop:=fun x vs H Q=> ∃l xs y,x=.ref l/\vs=[y]/\H l=some (.lst xs)/\xs.length<sizeLine/\Q .non (zi H l (.lst (xs++[y])))
def BL:MtM X "list.append" Ki:=by
 intro pins s σ H x vs v us Q I rx rv h;obtain⟨l,xs,y,rfl,rfl,hH,hz,q⟩:=h;cases rx;obtain⟨u,rfl,ru⟩:=rv.one;obtain⟨z,its,n,r,hl,e⟩:=I.lstM hH
 refine Du F.slot_list_append ⟨_,e,rfl⟩ F.entry_list_append (F.args_list_append_2 _ _) (PySem.list_append l its.toArray n u (by rw[Ak];lia)) ⟨e,?_⟩
 refine⟨.non,_,I.lset (its':=its++[u]) hH e (by simp) (r.append (.cons ru .nil)) ?_,rfl,q⟩
 rw[Av,Dv];lia
def Kj:V->List V->Hp->VK->Prop:=fun x vs H Q=> ∃l b xs zs,x=.ref l/\vs=[.ref b]/\H l=some (.lst xs)/\H b=some (.lst zs)/\xs.length+zs.length<=sizeLine/\Q .non (zi H l (.lst (xs++zs)))
def Kk:MtM X "list.extend" Kj:=by
 intro pins s σ H x vs v us Q I rx rv h;obtain⟨l,b,xs,zs,rfl,rfl,hH,hB,hz,q⟩:=h;cases rx;obtain⟨u,rfl,ru⟩:=rv.one;cases ru;obtain⟨z,its,n,r,hl,e⟩:=I.lstM hH;obtain⟨z2,its2,n2,r2,hl2,e2⟩:=I.lstM hB;have hsz:its.toArray.size+its2.toArray.size<=sizeLine:=by rw[Ak,Ak];lia
 have hlong: ¬(!its.toArray.isEmpty && Builtin.List.listTooLong (its.toArray.size+its2.toArray.size))=true:=by
  rw[Kh hsz,Ew];exact A7
 refine Du F.slot_list_extend ⟨_,e,rfl⟩ F.entry_list_extend (F.args_list_extend_2 _ _)
  (AutoSeq1.list_extend_list_list_0 l its.toArray n b its2.toArray n2 hlong (by rw[Ak];lia) (by lia)) ⟨e,e2,?_⟩
 refine⟨.non,_,I.lset (its':=its++its2) hH e (by simp) (r.append r2) ?_,rfl,q⟩
 rw[Av];lia
def rPop:V->List V->Hp->VK->Prop:=fun x vs H Q=> ∃l xs y,x=.ref l/\vs=[]/\H l=some (.lst xs)/\xs[xs.length-1]? =some y/\Q y (zi H l (.lst xs.dropLast))
def OJ:MtM X "list.pop" rPop:=by
 intro pins s σ H x vs v us Q I rx rv h;obtain⟨l,xs,y,rfl,rfl,hH,hy,q⟩:=h;cases rx;have hus:=rv.zero;subst hus;obtain⟨z,its,n,r,hl,e⟩:=I.lstM hH;obtain⟨u,hu,ru⟩:=r.get hy;have hy':its.toArray[its.toArray.size-1]? =some u:=by
  show its.toArray[its.length-1]? =some u;rw[<-Bm,<-hl];exact hu
 refine Du F.slot_list_pop ⟨_,e,rfl⟩ F.entry_list_pop (F.args_list_pop_1 _) (MeetsSeq.list_pop_last l its.toArray n u hy' (by rw[Ak];lia)) ⟨e,?_⟩
 refine⟨y,_,I.lset (its':=its.dropLast) hH e ?_ r.dropLast ?_,ru,q⟩
 .show its.toArray.eraseIdxIfInBounds (its.toArray.size-1)=its.dropLast.toArray
  rw[Ak,List.eraseIdxIfInBounds_toArray,OI]
 .rw[List.length_dropLast]
  lia
def Kl:V->List V->Hp->VK->Prop:=fun x vs H Q=> ∃l xs,x=.ref l/\vs=[]/\H l=some (.lst xs)/\Q .non (zi H l (.lst []))
def OK:MtM X "list.clear" Kl:=by
 intro pins s σ H x vs v us Q I rx rv h;obtain⟨l,xs,rfl,rfl,hH,q⟩:=h;cases rx;have hus:=rv.zero;subst hus;obtain⟨z,its,n,r,hl,e⟩:=I.lstM hH
 refine Du F.slot_list_clear ⟨_,e,rfl⟩ F.entry_list_clear (F.args_list_clear_1 _) (AutoSeq1.list_clear_list_0 l its.toArray n (by rw[Ak];lia)) ⟨e,?_⟩
 exact⟨.non,_,I.lset (its':=[]) (ys:=[]) hH e rfl .nil (Bw _),rfl,q⟩
def rCat:R2:=fun x y H Q=> ∃l b xs zs,x=.ref l/\y=.ref b/\H l=some (.lst xs)/\H b=some (.lst zs)/\xs.length+zs.length<=sizeLine/\∀p,H p=none->Q (.ref p) (zi H p (.lst (xs++zs)))
def OL:OpR X (binaryOp .Add) rCat:=by
 intro pins s σ H x y v u Q I rx ry h;obtain⟨l,b,xs,zs,rfl,rfl,hH,hB,hz,q⟩:=h;cases rx;cases ry;obtain⟨z,its,n,r,hl,e⟩:=I.lstM hH;obtain⟨z2,its2,n2,r2,hl2,e2⟩:=I.lstM hB
 refine PySem.P.add_list e e2 ?_ (by rw[Ak,Ak];lia)
 have ea:its.toArray++its2.toArray=(its++its2).toArray:=by simp
 rw[ea];exact⟨.ref _,_,I.lnew (t':=s.toks) (r.append r2) (by rw[Av];lia),rfl,q _ I.fresh⟩
def rRep:R2:=fun x y H Q=> ∃l k xs,x=.ref l/\y=.int k/\H l=some (.lst xs)/\ -(2 ^ 63)<=k/\k<2 ^ 63/\xs.length*k.toNat<=sizeLine/\
 ∀p,H p=none->Q (.ref p) (zi H p (.lst (List.replicate k.toNat xs).flatten))
def OM {α:Type} (xs:List α) (k:Nat):(List.replicate k xs).flatten.length=k*xs.length:=by
 induction k with
 |zero=>simp
 |succ k ih=>rw[De,Dt,Av,ih,Nat.succ_mul,Nat.add_comm]
def ON:OpR X (binaryOp .Mult) rRep:=by
 intro pins s σ H x y v u Q I rx ry h;obtain⟨l,k,xs,rfl,rfl,hH,h1,h2,hz,q⟩:=h;cases rx;obtain⟨t,rfl⟩:=ry;obtain⟨z,its,n,r,hl,e⟩:=I.lstM hH;have hlen:its.toArray.size*k.toNat<=sizeLine:=by rw[Ak,<-hl];exact hz
 have hcap: ¬its.toArray.size*k.toNat > (2 ^ 63-1) / 8:=by
  have:(sizeLine:Nat)<=(2 ^ 63-1) / 8:=by decide
  lia
 have hfit: ¬(!Builtin.List.listFitsIndex k)=true:=by
  rw[fitsIndex_both h1 h2];exact A7
 have hlong: ¬Builtin.List.listTooLong (its.toArray.size*k.toNat)=true:=by
  rw[Kh hlen];exact A7
 have hnew:List.foldl (fun x1 x2=>x1++x2) #[] (List.replicate (if its.toArray.isEmpty=true then 0 else k.toNat) its.toArray)=(List.replicate k.toNat its).flatten.toArray:=by
  have f0:∀m:Nat,List.foldl (fun x1 x2=>x1++x2) #[] (List.replicate m its.toArray)=(List.replicate m its).flatten.toArray:=fun m=>by
   have:=Kg its m [];rw[Cn]at this;exact this
  rw[f0];cases its with
  |nil=>simp
  |cons a r'=>rw[Ac (by simp)]
 refine wpAny_binaryOp_repeat_ref (T:="list") (U:="int") (by decide) ⟨_,e,rfl⟩ (fun s'=>typeIs_int s' k t) noFill_list_mul F.fills_int_mul F.slot_int_rmul repeat_list F.slot_int_index.lookup
  (Du F.slot_int_rmul (typeIs_int s k t) F.entry_int_rmul (F.args_int_rmul_2 _ _) (int___rmul___int_list k t l its.toArray n)
   ⟨e,rfl,⟨_,e,rfl⟩,Du F.slot_list_mul ⟨_,e,rfl⟩ F.entry_list_mul (F.args_list_mul_2 _ _) (AutoListH.list___mul___list_int_3 l its.toArray n k t hfit hcap hlong) ⟨e,?_⟩⟩)
 rw[hnew];exact⟨.ref _,_,I.lnew (t':=s.toks) (r.rep k.toNat) (by rw[OM,Nat.mul_comm];exact hz),rfl,q _ I.fresh⟩
end
section
variable {prog:Program} {w:World} {A:Around} {E:VP} {s:Shared}
set_option maxRecDepth 100000 in
end
end L2
namespace Att
open PySem PySem.W PySem.Calls PyProof.Rows
def OO {P:Params} {h:Heap}:∀(ns:List Int) (vs:List Value),WellAll P h vs (ns.map WData.int)->IntsAre vs ns:=by
 intro ns
 induction ns with
 |nil=>
  intro vs w;rw[A4]at w;cases w;exact .nil
 |cons n ns ih=>
  intro vs w;rw[Al]at w;cases w with
  |cons a b=>
   cases a;exact .cons _ _ (ih _ b)
def OP {l:OpenLaw} {n:Nat} (hn:l.most=some n) {P:Params} {h:Heap} {args:List WData} {vals:List Value}
  (hpre:l.row.toRowW.claim.pre args=true) (hwl:WellAll P h vals args):
  ∃a vs ns,vals=[Value.ref a]/\args=[WData.list (ns.map WData.int)]/\h.get? a=some {cls:= .type "list",data:= .seq vs.toArray}/\IntsAre vs ns/\ns.length<=n:=by
 have hsh:WShape.hasAll [] args [.list .int]=true:=(pre_splitW hpre).1;have hc:l.pre.holds [] {args:=args}=true:=(pre_splitW hpre).2;obtain⟨d,r,rfl,h1,h2⟩:=hasAllW_cons hsh;obtain rfl:=hasAllW_nil h2;obtain⟨xs,rfl,h3⟩:=hasW_list h1;obtain⟨ns,rfl⟩:=items_int h3;have hlen:ns.length<=n:=by
  unfold OpenLaw.pre at hc;have h4:(WTm.not (.lt (.lit (.int (n:Int))) (.len (.arg 0)))).holds [] {args:=[.list (ns.map .int)]}=true:=by
   have h4:=(holds_andW hc).1;rw[hn]at h4;exact h4
  have h5:=condW_of h4 (w_not (w_lt w_lit (w_len_list (w_arg rfl))));rw[Ah]at h5
  refine Nat.le_of_not_lt fun q=>?_
  have q':(n:Int)<((ns.length:Nat):Int):=by lia
  first
   | (rw[Bk q']at h5;exact absurd h5 (by decide))
   | (simp at h5;lia)
 cases hwl with
 |cons w1 w2=>
  cases w2;cases w1 with
  |list ho hall=>exact⟨_,_,ns,rfl,rfl,ho,OO ns _ hall,hlen⟩
def OQ (l:OpenLaw) (args:List WData):l.row.toRowW.claim.post args (.bool true) args=true:=
 postW_of (r:=l.row.toRowW) (X:=(true==true))
  (show WShape.has [] (.bool true) .bool=true by first|rfl|decide|simp[WShape.has,WShape.arms,WShape.armsAll])
  (show (WTm.eq .res (.lit (.bool true))).value [] {args:=args,res:=some (.bool true),after:=args}=some (.bool (true==true)) from w_eq_bool (w_res rfl) w_lit) rfl
def attach_call {l:OpenLaw} {n:Nat} {q:Program} {loose:List Str} {XP:(Str->Option Value)->Heap->Prop} {YP:World->Heap->Prop} {d:DefRec}
  (hn:l.most=some n) (hdf:d.params.defaults=[])
  (call:∀(w:World) (s₀ s₁:Shared) (mg mb:Str->Option Value) (fa:Addr) (o:Obj) (pm cd doc:Value) (a:Addr) (vs:List Value) (ns:List Int),
   Ground q loose [] XP w s₀ mg mb s₁.heap->YP w s₁.heap->
   s₁.heap.get? fa=some o->o.data=.func (docDef d.name d.params d.body d.scope pm cd doc)->s₁.heap.CodeRec cd d.name->mg d.name=some (.ref fa)->
   s₁.heap.get? a=some {cls:= .type "list",data:= .seq vs.toArray}->IntsAre vs ns->ns.length<=n->s₁.gens= #[]->
   codeAny (model l.prog w) callerA (.call (.ref fa) ⟨[.ref a],[]⟩) (fun r s'=>r=.ok (.ret (.bool true))/\OldK s₁.heap s'.heap/\s'.os=s₁.os/\AllBare s'.gens) s₁):
  WalkO q loose XP YP l.row.toRowW d [] (fun f vs=>PySem.call f vs):=by
 intro w s₀ s₁ mg mb G Y fa o pm cd doc dV kV ho hd hcd hD hmg hg args vals as hpre hlay hrd hwl hlo;obtain rfl:dV=.none:=Dflts.none hD hdf;obtain rfl:kV=.none:=Dflts.noKw hD;obtain⟨a,vs,ns,rfl,rfl,hobj,hints,hlen⟩:=OP hn hpre hwl
 refine enter_call (Cw (call w s₀ s₁ mg mb fa o pm cd doc a vs ns G Y ho (fd_plain hd) hcd hmg hobj hints hlen hg) fun r s' hq=>?_)
 obtain⟨rfl,h2,h3,h4⟩:=hq;exact⟨.inl ⟨.bool true,.bool true,[],rfl,fun _=>rfl,.bool true,OQ l _,fun _=>⟨List.Pairwise.nil,fun _ hm=>(nomatch hm)⟩⟩,h2,h3,h4⟩
end Att
namespace L2
open PySem PySem.Spec PyProof.Rows
theorem Km:∀{vs:List Value} {ns:List Int},IntsAre vs ns->Vals (ns.map V.int) vs
 |_,_,.nil=>.nil
 |_,_,.cons n t h=>.cons ⟨t,rfl⟩ (Km h)
def Only (H:Hp):Prop:=∀b,H b=none\/∃o xs,H b=some (.frz o (.lst xs))
def OR {P:Program} {w:World} {K:FG} {mg mb:Str->Option Value} {CX:qw} {k:Nat} {fa a:Addr} {fd:FuncData} {x:Str} {sp:Sp} {s₁:Shared} {vs:List Value} {ns:List Int}
  (KX:K.In s₁.heap) (hns:s₁.heap.Ns mainGlobals mg) (hb:s₁.heap.Ns builtinsNs mb) (hbb:∀x:Str,x≠"__name__" ->mb x=bootBuiltins x) (hlim:s₁.heap.NoLimit) (hg:s₁.gens= #[])
  (ha:s₁.heap.get? a=some {cls:= .type "list",data:= .seq vs.toArray}) (hi:IntsAre vs ns) (hl:ns.length<=sizeLine) (hr:Room k callerA)
  (F:∀base:Heap,K.In base->base.Ns mainGlobals mg->FnOk P w K mg base CX k fa fd [x] sp) (hbind:∀(s:Shared) (u:Value),BindsTo s fd ⟨[u],[]⟩ [(x,u)])
  (hsp:∀H:Hp,Only H->SqL K H a (ns.map V.int)->sp [.ref a] H (fun v _=>v=.bl true) fun _ _ _=>False)
  (hCX:∀H e s',CX [] H s₁ (fun _ _ _=>False) e s'->False):
  codeAny (model P w) callerA (.call (.ref fa) ⟨[.ref a],[]⟩) (fun r s'=>r=.ok (.ret (.bool true))/\OldK s₁.heap s'.heap/\s'.os=s₁.os/\AllBare s'.gens) s₁:=by
 have rv:=Km hi;have lenV:=hi.length;have core:∀H:Hp,Only H->SqL K H a (ns.map V.int)->HOk P w H s₁.heap->(∀b,H b≠none->b=a)->(H a≠none->K.lookup a=none)->
   codeAny (model P w) callerA (.call (.ref fa) ⟨[.ref a],[]⟩) (fun r s'=>r=.ok (.ret (.bool true))/\OldK s₁.heap s'.heap/\s'.os=s₁.os/\AllBare s'.gens) s₁:=by
  intro H hO hS hok hA hK;have base_of:∀{b:Addr} {o:Obj},s₁.heap.get? b=some o->H b=none->(hidT s₁.heap H).get? b=some o:=fun e n=>Ng e n
  have noA:∀{b:Addr} {o:Obj} {es:Array DictEntry} {ep:Nat},s₁.heap.get? b=some o->o.data=.dict es ep->H b=none:=fun {b o es ep} e d=>by
   cases q:H b with
   |none=>rfl
   |some u=>
    have e':b=a:=hA b (by rw[q];simp)
    subst e';rw[ha]at e;cases e;have d':Data.seq vs.toArray _=Data.dict es ep:=d;cases d'
  have nsK:∀{b:Addr} {m:Str->Option Value},s₁.heap.Ns b m->(hidT s₁.heap H).Ns b m:=fun {b m} ⟨o,es,ep,e,d,r⟩=>⟨o,es,ep,base_of e (noA e d),d,r⟩
  have hKb:K.In (hidT s₁.heap H):=fun b o e=>base_of (KX b o e) (by
   cases q:H b with
   |none=>rfl
   |some u=>
    have e':b=a:=hA b (by rw[q];simp)
    subst e';rw[hK (by rw[q];simp)]at e;cases e)
  have hM:Mod K mg (hidT s₁.heap H):=⟨hKb,nsK hns,⟨mb,nsK hb,hbb⟩,let ⟨mc,h1,h2⟩:=hlim;⟨mc,nsK h1,h2⟩⟩;have e0:Env0 P w K mg (hidT s₁.heap H) callerA [] s₁ H:=⟨rfl,hM,fun b o e=>Nh e,Nat.le_of_eq (Nf _ _),trivial,fun b hb=>absurd (show b∈([]:List Addr) from hb) (by simp),hok,.of_eq hg⟩
  refine Cw ((F _ hKb (nsK hns)).run callerA [] s₁ H ⟨[.ref a],[]⟩ [.ref a] [.ref a] _ _ hr e0 (hbind s₁ (.ref a)) (.cons rfl .nil) (hsp H hO hS)) fun r s' h=>?_
  cases r with
  |error e=>exact (hCX H e s' h).elim
  |ok fl=>
   cases fl with
   |next=>exact False.elim h
   |brk=>exact False.elim h
   |cont=>exact False.elim h
   |ret u=>
    obtain⟨v,H',os,bare,un,hok',r',q⟩:=h;have q':v=.bl true:=q;subst q';obtain rfl:u=Value.bool true:=r'
    refine⟨rfl,OldK.of_keep fun b o e=>?_,os,bare⟩
    cases q:H b with
    |none=>exact un.keep b o e q (by intro z;exact absurd (show b∈([]:List Addr) from z) (by simp)) (by simp)
    |some u=>
     rcases hO b with z|⟨ob,xs,z⟩
     .rw[q]at z;cases z
     .have z2:=un.frzs b ob _ z
      obtain⟨e1,_⟩:=hok b _ z;obtain⟨e2,_⟩:=hok' b _ z2;rw[e]at e1;cases e1;exact e2
 cases hk:K.lookup a with
 |some o=>
  have e:=KX a o hk;rw[ha]at e;cases e
  refine core (fun _=>none) (fun _=>.inl rfl) (.inr ⟨_,vs.toArray,_,hk,rfl,rfl,rfl,by rw[Ak,lenV];exact hl,by simpa using rv⟩) (fun b u z=>by have z':(none:Option HO)=some u:=z;cases z') (fun b z=>absurd rfl z) fun z=>absurd rfl z
 |none=>
  refine core (fun b=>if b=a then some (.frz {cls:= .type "list",data:= .seq vs.toArray} (.lst (ns.map V.int))) else none) (fun b=>?_) (.inl (.inr ⟨{cls:= .type "list",data:= .seq vs.toArray},Aa rfl⟩)) (fun b u z=>?_) (fun b z=>?_) fun _=>hk
  .by_cases hb:b=a
   .exact .inr ⟨_,_,Aa hb⟩
   .exact .inl (Ac hb)
  .by_cases hb:b=a
   .have z':=(Aa hb).symm.trans z
    cases z';subst hb;exact⟨ha,by rw[Ah];exact hl,vs,_,rv,ha⟩
   .have z':=(Ac hb).symm.trans z
    cases z'
  .by_cases hb:b=a
   .exact hb
   .exact absurd (Ac hb) z
def BM (s:Stmt) (j:Nat):Stmt:=match s with
 |.ClassDef _ _ _ body _ _ _ _ _ _ _=>body.getD j (.Pass ⟨0,0,0,0⟩)
 |_=> .Pass ⟨0,0,0,0⟩
def EL (s:Stmt):Arguments:=match s with
 |.FunctionDef _ a _ _ _ _ _ _ _ _=>a
 |_=>{posonlyargs:=[],args:=[],vararg:=none,kwonlyargs:=[],kw_defaults:=[],kwarg:=none,defaults:=[]}
def BN (s:Stmt):List Stmt:=match s with
 |.FunctionDef _ _ b _ _ _ _ _ _ _=>b
 |_=>[]
def zC (s:Stmt):Scope:=match s with
 |.FunctionDef _ _ _ _ _ _ sc _ _ _=>sc
 |_=>{kind:= .function,names:=[],isGenerator:=false,isCoroutine:=false}
abbrev E0:XK:=fun _ _ _=>False
structure Fun (K:FG) (x qual:Str) (st:Stmt) (f:Addr) (fd:FuncData):Prop where
 ex:∃(oc:Value) (od:Option Addr) (kV doc pm:Value) (an:Option Addr) (cdv ct:Value) (osl:Array (Option Value)),
  fd=PySem.W.fnOf x qual (EL st) (BN st) (zC st) .none kV doc pm an cdv ct/\K.lookup f=some ⟨oc,od,.func fd,osl⟩/\PySem.W.codeIn K cdv qual=true
 kp:PySem.W.keepIn K (.ref f)=true
section
variable {P:Program} {w:World} {K:FG} {mg:Str->Option Value} {base:Heap}
def Fun.binds {x qual:Str} {st:Stmt} {f:Addr} {fd:FuncData} {ps:List Str} (F:Fun K x qual st f fd)
  (h:∀(kV doc pm:Value) (an:Option Addr) (cdv ct:Value) (us:List Value),us.length=ps.length->bindArgs (PySem.W.fnOf x qual (EL st) (BN st) (zC st) .none kV doc pm an cdv ct) ⟨us,[]⟩=pure (ps.zip us)):Binds K fd ps []:=by
 obtain⟨oc,od,kV,doc,pm,an,cdv,ct,osl,rfl,lk,hcd⟩:=F.ex;exact .all (h kV doc pm an cdv ct)
end
def Kn {n:Nat} (h:n<=1000):n<sizeLine:=Nat.lt_of_le_of_lt h (by decide)
section
variable {X:Cx}
def pv (i:Nat) {x:Str} {pos:Pos} (hN:X.N[i]? =some x:=by rfl) (hv:Vis X.env.scope x:=by first|exact Or.inl rfl|exact Or.inr (Or.inl rfl)|exact Or.inr (Or.inr rfl)) (hd:(x==("__debug__" :Str))=false:=by decide)
 (hcd:(x==("__classdict__" :Str))=false:=by decide):PE X (.Name x pos) (tVar i):=ED hN hv hd hcd
end
end L2
set_option maxHeartbeats 0
namespace L2
open PySem PySem.Spec PyProof.Rows
def yN (X:Cx) (N:List Str) (scope:Scope) (cl:List (Str×Addr)) (C:Addr) (s:Shared) (H:Hp) (ex:List Addr):Cx where
 prog:=X.prog
 w:=X.w
 K:=X.K
 mg:=X.mg
 base:=X.base
 A:=X.A
 N:=N
 s₀:=s
 H₀:=H
 env:=compEnvC scope cl C X.env
 outer:=X.stack
 stack:=X.stack
 ex:=ex
 fn:=fun _=>false
 calm:=X.calm
 pn:=[]
 xe:=fun _ _=>False
theorem Hz {env:Env}:∀(names:List (Str×NameKind)) (acc:List (Str×Addr)),(∀y∈names,y.2=.free->∃c,env.cells.lookup y.1=some c)->
  ∃cl,(forIn names acc (fun x cs=>match x with|(name,kind)=>if (kind==NameKind.free)=true then (do let a <-cellOf env name;pure (ForInStep.yield ((name,a)::cs))) else pure (ForInStep.yield cs)):Sem (List (Str×Addr)))=pure cl/\
   (∀p∈cl,p∈acc\/env.cells.lookup p.1=some p.2)/\(∀y∈names,y.2=.free->∃c,(y.1,c)∈cl)/\∀p∈acc,p∈cl
 | [],acc,_=>⟨acc,by rw[List.forIn_nil],fun p hp=>.inl hp,fun _ h=>(nomatch h),fun _ h=>h⟩
 | (n,k)::r,acc,h=>by
  rw[List.forIn_cons]
  by_cases hk:k=.free
  .subst hk
   obtain⟨c,hc⟩:=h (n,.free) Aj rfl;obtain⟨cl,e,h1,h2,h3⟩:=Hz r ((n,c)::acc) fun y hy=>h y (Am _ hy)
   have ec:cellOf env n=pure c:=by unfold cellOf;rw[hc]
   refine⟨cl,?_,fun p hp=>?_,fun y hy hf=>?_,fun p hp=>h3 p (Am _ hp)⟩
   .simp only[Ex,By,ec,pure_bind]
    exact e
   .rcases h1 p hp with q|q
    .rcases Ae.mp q with rfl|q
     .exact .inr hc
     .exact .inl q
    .exact .inr q
   .rcases Ae.mp hy with rfl|hy
    .exact⟨c,h3 _ Aj⟩
    .exact h2 y hy hf
  .obtain⟨cl,e,h1,h2,h3⟩:=Hz r acc fun y hy=>h y (Am _ hy)
   have hb:(k==NameKind.free)=false:=by simpa using hk
   refine⟨cl,?_,h1,fun y hy hf=>?_,h3⟩
   .simp only[hb,Dw,Bx,pure_bind]
    exact e
   .rcases Ae.mp hy with rfl|hy
    .exact absurd hf hk
    .exact h2 y hy hf
theorem Ko {α:Type}:∀{l:List (Str×α)} {x:Str} {c:α},(x,c)∈l->∃d,l.lookup x=some d
 | (y,e)::r,x,c,h=>by
  rw[Bp];cases hb:x==y with
  |true=>exact⟨e,rfl⟩
  |false=>
   rcases Ae.mp h with q|q
   .cases q;simp at hb
   .exact Ko q
def Kp {scope:Scope} {env:Env} (h:∀y∈scope.names,y.2=.free->∃c,env.cells.lookup y.1=some c):
  ∃cl,closureFor scope env=pure cl/\(∀x c,cl.lookup x=some c->env.cells.lookup x=some c)/\∀y∈scope.names,y.2=.free->∃c,cl.lookup y.1=some c:=by
 obtain⟨cl,e,h1,h2,_⟩:=Hz (env:=env) scope.names [] h
 refine⟨cl,?_,fun x c q=>?_,fun y hy hf=>?_⟩
 .simp only[closureFor]
  rw[e];rfl
 .rcases h1 _ (Cj q) with z|z
  .cases z
  .exact z
 .obtain⟨c,hc⟩:=h2 y hy hf
  exact Ko hc
section
variable {prog:Program} {w:World} {A:Around} {R:Result->Shared->Prop} {s:Shared}
def OS {elt target iter:Expr} {ifs:List Expr} {scope:Scope} {pos:Pos} {it acc:Value} {env:Env} (I:Nat->Shared->Prop)
  (turn:∀n s,I n s->wpAny (model prog w) A (pyNext it) (fun r s₁=>match r with
   |none=>R (.ok .next) s₁
   |some v=>wpAny (model prog w) A (letOwnedTupleGo target it v) (fun _ s₁'=>wpAny (model prog w) A (assign target env v) (fun _ s₂=>
    wpAny (model prog w) A (forIn ifs true fun c r=>if r=true then do let ok <-isTrue c env (eval c env);pure (ForInStep.yield ok) else pure (ForInStep.yield r)) (fun ok s₃=>
     if ok=true then wpAny (model prog w) A (eval elt env) (fun x s₄=>
      wpAny (model prog w) A (call (.builtin "list.append") [acc,x]) (fun _ s₅=> ∃m,m<n/\I m s₅) (fun _ _=>False) s₄) (fun _ _=>False) s₃
     else ∃m,m<n/\I m s₃) (fun _ _=>False) s₂) (fun _ _=>False) s₁') (fun _ _=>False) s₁) (fun _ _=>False) s)
  (n:Nat) (h:I n s):codeAny (model prog w) A (.compLoop (.ListComp elt [⟨target,iter,ifs,0⟩] scope pos) 0 it acc env) R s:=by
 refine codeAny_loop rfl I (fun n s hI=>?_) n h
 show wpAny _ A ((compTurn (.ListComp elt [⟨target,iter,ifs,0⟩] scope pos) 0 it acc env).onRaise (fun x=>do noteFrame x env;theTreesLotGoes x)) _ _ s
 refine wpAny_noted ?_
 rw[compTurn_list]
 refine Ab (D9 (Ab (Bj (turn n s hI) (fun r s₁ h₁=>?_) fun _ _ f=>f.elim)))
 cases r with
 |none=>exact Ad h₁
 |some v=>
  refine Ab (Bj h₁ (fun _ s₁' h₁'=>?_) fun _ _ f=>f.elim)
  refine Ab (Bj h₁' (fun _ s₂ h₂=>Ab (Bj h₂ (fun ok s₃ h₃=>?_) fun _ _ f=>f.elim)) fun _ _ f=>f.elim)
  cases ok with
  |false=>exact Ad ⟨rfl,h₃⟩
  |true=>
   exact Ab (Ab (Bj h₃ (fun x s₄ h₄=>Ab (Bj h₄ (fun _ s₅ h₅=>Ad (Ad ⟨rfl,h₅⟩)) fun _ _ f=>f.elim)) fun _ _ f=>f.elim))
end
def cst (k:Nat) (fr:List Nat) (σ:St):St:=List.replicate k none++fr.map fun j=>(σ[j]?).join
structure CompScope (X:Cx) (loc free:List Str) (fr:List Nat) (scope:Scope):Prop where
 kind:scope.kind=.function
 cell:∀y∈scope.names,y.2≠ .cell
 names:∀y∈scope.names,y.2=.local->scope.names.lookup y.1=some .local
 frees:∀y∈scope.names,y.2=.free->X.env.kindOf y.1=some .cell\/X.env.kindOf y.1=some .free
 at_:∀(i j:Nat) (x:Str),fr[i]? =some j->free[i]? =some x->X.N[j]? =some x/\scope.names.lookup x=some .free
 len:fr.length=free.length
theorem Kq {env:Env}:∀{names:List (Str×NameKind)} {x:Str},(∀y∈names,y.2≠ .cell)->
    ((names.map fun (n,k)=>if (k==NameKind.free && env.scope.kind== .function && env.kindOf n==some .cell) then (n,NameKind.cell) else (n,k)).lookup x=some .cell\/
     (names.map fun (n,k)=>if (k==NameKind.free && env.scope.kind== .function && env.kindOf n==some .cell) then (n,NameKind.cell) else (n,k)).lookup x=some .free)->names.lookup x=some .free
  | [],_,_,h=>by simp at h
  | (n,k)::r,x,hc,h=>by
    have ih:= @Kq env r x fun y hy=>hc y (Am _ hy)
    rw[Al]at h;rw[Bp];cases hx:x==n with
    |true=>
      have hk:k≠ .cell:=hc (n,k) Aj;dsimp only at h ⊢
      by_cases hb:(k==NameKind.free && env.scope.kind== .function && env.kindOf n==some .cell)=true
      · have:k=.free:=by
          rw[Ar,Ar]at hb;simpa using hb.1.1
        rw[this]
      · rw[Ac hb,Bp,hx]at h
        rcases h with h|h
        · have:k=.cell:=Option.some.inj h
          exact absurd this hk
        · exact h
    |false=>
      dsimp only at h ⊢
      refine ih ?_
      by_cases hb:(k==NameKind.free && env.scope.kind== .function && env.kindOf n==some .cell)=true
      · rw[Aa hb,Bp,hx]at h;exact h
      · rw[Ac hb,Bp,hx]at h;exact h
theorem Kr {env:Env}:∀{names:List (Str×NameKind)} {x:Str},names.lookup x=some .free->
    ((names.map fun (n,k)=>if (k==NameKind.free && env.scope.kind== .function && env.kindOf n==some .cell) then (n,NameKind.cell) else (n,k)).lookup x=some .cell\/
     (names.map fun (n,k)=>if (k==NameKind.free && env.scope.kind== .function && env.kindOf n==some .cell) then (n,NameKind.cell) else (n,k)).lookup x=some .free)
  | [],_,h=>by simp at h
  | (n,k)::r,x,h=>by
    have ih:= @Kr env r x;rw[Al];rw[Bp]at h;cases hx:x==n with
    |true=>
      rw[hx]at h;have hk:k=.free:=Option.some.inj h;subst hk;dsimp only
      by_cases hb:(NameKind.free==NameKind.free && env.scope.kind== .function && env.kindOf n==some .cell)=true
      · rw[Aa hb,Bp,hx];exact .inl rfl
      · rw[Ac hb,Bp,hx];exact .inr rfl
    |false=>
      rw[hx]at h;have:=ih h;dsimp only
      by_cases hb:(k==NameKind.free && env.scope.kind== .function && env.kindOf n==some .cell)=true
      · rw[Aa hb,Bp,hx];exact this
      · rw[Ac hb,Bp,hx];exact this
section
variable {X:Cx} {pins:AL} {σ:St} {H:Hp} {s:Shared}
def OT {loc free:List Str} {fr:List Nat} {scope:Scope} {cl:List (Str×Addr)} {h1:Heap} {t1:Nat} {fp:List Addr} (S:CompScope X loc free fr scope) (I:Inv X pins σ H s)
  (hc1:∀x c,cl.lookup x=some c->X.env.cells.lookup x=some c) (hc2:∀y∈scope.names,y.2=.free->∃c,cl.lookup y.1=some c)
  (hns:h1.Ns s.heap.objs.size (fun _=>none)) (hk:∀b o,s.heap.get? b=some o->h1.get? b=some o)
  (hfp:∀b∈fp,yo X pins H b) (hfo:∀b∈fp,∃o,s.heap.get? b=some o):
  Inv (yN X (loc++free) scope cl s.heap.objs.size s H fp) [] (cst loc.length fr σ) H {s with heap:=h1,toks:=t1}:=by
 have fpb:∀b∈fp,b<s.heap.objs.size:=fun b hb=>let ⟨o,e⟩:=hfo b hb;Af e
 refine⟨⟨I.ok.mod,S.kind,I.ok.glob,I.ok.blt,Ag _,fun x y c e1 e2=>I.ok.inj x y c (hc1 _ _ e1) (hc1 _ _ e2),fun x hx=>?_,fun x c f=>(nomatch f),I.ok.hd,I.ok.frames,.inl rfl,fun b hb=>?_,I.bs,Bi I.ok.bsz I.sz,fun b o e hb=>?_,fun b hb z=>?_,I.stack,I.stkFree⟩,
  rfl,I.bare,Un.kept hk,⟨_,hns,fun i x v e1 e2 e3=>?_⟩,fun x c e=>?_,I.hok.fresh (Ag _),fun x c e=>I.freeC x c (hc1 x c e),fun p hp=>absurd (show p∈([]:AL) from hp) (by simp),I.hok.kept hk,?_⟩
 .have q:scope.names.lookup x=some .free:=Kq S.cell hx
  exact hc2 (x,.free) (Cj q) rfl
 .exact⟨Aq (fpb b hb),fun x c e=>(hfp b hb).2.2.2.2.1 x c (hc1 x c e)⟩
 .rcases (hfp b hb).2.2.2.1 with z|z
  .exact I.ok.noex b o e z
  .exact absurd (Ay (Af e) (Bi I.ok.bsz z)) (Bn _)
 .rcases Ae.mp (I.stkSub b z) with e|e
  .exact (hfp b hb).2.1 e
  .exact (hfp b hb).2.2.1 e
 .have e1':(loc++free)[i]? =some x:=e1
  unfold cst at e2
  by_cases hi:i<loc.length
  .rw[A8 (by simpa using hi),Fj]at e2
   rw[Aa hi]at e2;cases e2
  .have hi':loc.length<=i:=Nat.le_of_not_lt hi
   rw[Bo (by simpa using hi'),Dd,A9]at e2
   rw[Bo hi']at e1';cases hj:fr[i-loc.length]? with
   |none=>rw[hj]at e2;cases e2
   |some j=>
    rw[hj]at e2;have e2':(σ[j]?).join=some v:=Option.some.inj e2;obtain⟨n1,n2⟩:=S.at_ _ j x hj e1';have e4:σ[j]? =some (some v):=by
     cases q:σ[j]? with
     |none=>rw[q]at e2';cases e2'
     |some z=>rw[q]at e2';exact congrArg some e2'
    have kf:=S.frees (x,.free) (Cj n2) rfl;obtain⟨m,hn,hl⟩:=I.loc;obtain⟨u,r,l⟩:=hl j x v n1 e4 (kf.elim (fun z=>.inr (.inl z)) fun z=>.inr (.inr z))
    refine⟨u,r,.inr ⟨Kr n2,?_⟩⟩
    obtain⟨c,hc⟩:=hc2 (x,.free) (Cj n2) rfl;have hcx:=hc1 x c hc
    rcases l with ⟨hk',_⟩|⟨_,c',hc',hcell⟩
    .rcases kf with z|z<;>(rw[hk']at z;cases z)
    .rw[hcx]at hc'
     cases hc';obtain⟨o,ho,hd⟩:=hcell;exact⟨c,hc,o,hk _ _ ho,hd⟩
 .obtain⟨v,o,ho,hd⟩:=I.cell x c (hc1 x c e)
  exact⟨v,o,hk _ _ ho,hd⟩
 .show (cst loc.length fr σ).length=(loc++free).length
  unfold cst;rw[Av,Dd,Ah,Av,S.len]
abbrev OU (J:It) (g:TG) (tc:TT) (te:TE) (σ0:St) (H:Hp) (Q:VK) (D:Addr):Prop:=
 ∃W:Nat->Nat->List V->St->Hp->Prop,(∃m,W 0 m [] σ0 (zi H D (.lst [])))/\∀i m acc σ' H',W i m acc σ' H'->H' D=some (.lst acc)/\
  ((J.stop i H'/\Q (.ref D) H')\/(J.go i H'/\∃N:List V->St->Hp->Prop,(∀acc' σ3 H5,N acc' σ3 H5->∃m',m' < m/\W (i+1) m' acc' σ3 H5)/\∀x H2,J.yld i H' x H2->g x σ' H2 fun σ3 H3=>tc σ3 H3 fun b H4=>
   if b=true then te σ3 H4 fun v H5=>H5 D=some (.lst acc)/\acc.length<sizeLine/\N (acc++[v]) σ3 (zi H5 D (.lst (acc++[v])))
   else N acc σ3 H4))
def Gx (wi:TI) (k:Nat) (fr:List Nat) (g:TG) (tc:TT) (te:TE):TE:=fun σ H Q=>wi σ H fun J H1=> ∀D,H1 D=none->OU J g tc te (cst k fr σ) H1 Q D
def OV:TT:=fun _ H Q=>Q true H
def PTs (X:Cx) (ifs:List Expr) (t:TT):Prop:=
 ∀(pins:AL) (s:Shared) (σ:St) (H:Hp) (Q:Bool->Hp->Prop),Inv X pins σ H s->t σ H Q->
  wpAny (model X.prog X.w) X.A (forIn ifs true fun c r=>if r=true then do let ok <-isTrue c X.env (eval c X.env);pure (ForInStep.yield ok) else pure (ForInStep.yield r)) (TP X pins σ Q) X.xe s
def OW:PTs X [] OV:=fun pins s σ H Q I h=>wpAny_tests_nil ⟨H,I,h⟩
def OX {c:Expr} {t:TT} (h:PT X c t):PTs X [c] t:=fun pins s σ H Q I q=>wpAny_tests_one (h pins s σ H Q I q)
structure CompEnd (X:Cx) (pins:AL) (σ:St) (Q:VK) (D C:Addr) (s6:Shared):Prop where
 inv:∃H5,Inv X pins σ H5 s6/\H5 C=none/\Q (.ref D) H5
 ns:∃m,s6.heap.Ns C m
 neL:C≠X.env.locals
 nfs:C∉X.fs
 new:X.s₀.heap.objs.size<=C
 cel:∀x c,X.env.cells.lookup x=some c->c≠C
 pin:∀p∈X.pn++pins,p.1≠C
def Ks {elt tg iter:Expr} {ifs:List Expr} {loc free:List Str} {fr:List Nat} {scope:Scope} {pos:Pos} {wi:TI} {g:TG} {tc:TT} {te:TE} (hc:X.calm=true) (S:CompScope X loc free fr scope) (hi:PI X tg iter wi)
  (hg:∀cl C s H ex,PG (yN X (loc++free) scope cl C s H ex) tg g) (ht:∀cl C s H ex,PTs (yN X (loc++free) scope cl C s H ex) ifs tc) (he:∀cl C s H ex,PE (yN X (loc++free) scope cl C s H ex) elt te)
  (I:Inv X pins σ H s) {Q:VK} (h:Gx wi loc.length fr g tc te σ H Q) {cl:List (Str×Addr)} (hc1:∀x c,cl.lookup x=some c->X.env.cells.lookup x=some c) (hc2:∀y∈scope.names,y.2=.free->∃c,cl.lookup y.1=some c)
  {RR:Value->Addr->Result->Shared->Prop} (hRR:∀D C s6,CompEnd X pins σ Q D C s6->RR (.ref D) C (.ok .next) s6):
  wpAny (model X.prog X.w) X.A (eval iter X.env) (fun x s1=>wpAny (model X.prog X.w) X.A (pyIter x) (fun it s2=>wpAny (model X.prog X.w) X.A (newList []) (fun acc s3=>
   wpAny (model X.prog X.w) X.A (newFunctionEnv scope X.env.globals cl [] X.env.qual none .none (some X.env)) (fun cenv s4=>
    codeAny (model X.prog X.w) X.A (.compStart (.ListComp elt [⟨tg,iter,ifs,0⟩] scope pos) 0 it acc {cenv with scope:=relabel scope X.env}) (RR acc cenv.locals) s4) X.xe s3) X.xe s2) X.xe s1) X.xe s:=by
 refine thn (hi pins s σ H _ I h) fun v s1 h1=>thn h1 fun itv s2 h2=>?_
 obtain⟨it,fp,tn,J,H2,e,I2,T,st2,f2,q2⟩:=h2;subst e;have hD:H2 s2.heap.objs.size=none:=I2.hok.fresh (Ag _);obtain⟨W,⟨m0,w0⟩,turn⟩:=q2 s2.heap.objs.size hD
 refine B6 ?_
 generalize hs3:({s2 with heap:=s2.heap.push {cls:= .type "list",dict:=none,data:= .seq ([]:List Value).toArray}}:Shared)=s3
 have I3:Inv X pins σ (zi H2 s2.heap.objs.size (.lst [])) s3:=by
  rw[<-hs3];exact I2.lnew (its:=[]) (t':=s2.toks) .nil (Bw _)
 have k23:∀b o,s2.heap.get? b=some o->s3.heap.get? b=some o:=fun b o q=>by rw[<-hs3];exact Ao _ q
 have f3:∀b∈fp,yo X pins (zi H2 s2.heap.objs.size (.lst [])) b:=fun b hb=>by
  obtain⟨o,e,_⟩:=T.obj _ _ st2 b hb;exact⟨by rw[zy (Aq (Af e))];exact (f2 b hb).1,(f2 b hb).2⟩
 have o3:∀b∈fp,∃o,s3.heap.get? b=some o:=fun b hb=>let ⟨o,e,_⟩:=T.obj _ _ st2 b hb;⟨o,k23 b o e⟩
 have st3:tn 0 s3.heap:=T.keep _ _ _ st2 fun b _ o e=>k23 b o e
 refine wpAny_newFunctionEnv S.cell (by intro y hy;simp at hy) (fun h4 hns hsb=>?_) S.kind
 try dsimp only at hns hsb ⊢
 have k34:∀b o,s3.heap.get? b=some o->h4.get? b=some o:=fun b o q=>hsb.extBut b o (Aq (Af q)) (Ao _ q)
 have I4:=OT (t1:=s3.toks+([]:List (Str×Value)).length) S I3 hc1 hc2 hns k34 f3 o3;have hgC:=hg cl s3.heap.objs.size s3 (zi H2 s2.heap.objs.size (.lst [])) fp;have htC:=ht cl s3.heap.objs.size s3 (zi H2 s2.heap.objs.size (.lst [])) fp;have heC:=he cl s3.heap.objs.size s3 (zi H2 s2.heap.objs.size (.lst [])) fp;have st4:tn 0 h4:=T.keep _ _ _ st3 fun b _ o e=>k34 b o e
 generalize hY:yN X (loc++free) scope cl s3.heap.objs.size s3 (zi H2 s2.heap.objs.size (.lst [])) fp=Y at I4 hgC htC heC;have fY:∀{H':Hp},(∀b∈fp,H' b=none)->∀b∈fp,yo Y [] H' b:=fun hn b hb=>by
  subst hY
  refine⟨hn b hb,?_,fun z=>?_,.inl hb,fun x c e=>(f3 b hb).2.2.2.2.1 x c (hc1 x c e),fun p hp=>absurd (show p∈([]:AL) from hp) (by simp)⟩
  .obtain⟨o,e⟩:=o3 b hb
   exact Aq (Af e)
  .rcases Ae.mp (I3.stkSub b z) with e|e
   .exact (f3 b hb).2.1 e
   .exact (f3 b hb).2.2.1 e
 have hYp:Y.prog=X.prog:=by rw[<-hY];rfl
 have hYw:Y.w=X.w:=by rw[<-hY];rfl
 have hYK:Y.K=X.K:=by rw[<-hY];rfl
 have hYA:Y.A=X.A:=by rw[<-hY];rfl
 have hYe:Y.env=compEnvC scope cl s3.heap.objs.size X.env:=by rw[<-hY];rfl
 have hYx:Y.xe=fun _ _=>False:=by rw[<-hY];rfl
 have hYc:Y.calm=true:=by rw[<-hY];exact hc
 have loop:codeAny (model X.prog X.w) X.A (.compLoop (.ListComp elt [⟨tg,iter,ifs,0⟩] scope pos) 0 (.ref it) (.ref s2.heap.objs.size) (compEnvC scope cl s3.heap.objs.size X.env))
   (RR (.ref s2.heap.objs.size) s3.heap.objs.size) {s3 with heap:=h4,toks:=s3.toks+([]:List (Str×Value)).length}:=by
  refine OS (fun n s'=> ∃i acc σ' H',Inv Y [] σ' H' s'/\tn i s'.heap/\(∀b∈fp,H' b=none)/\W i n acc σ' H') ?_ m0 ⟨0,[],_,_,I4,st4,fun b hb=>(f3 b hb).1,w0⟩
  rintro n s5 ⟨i,acc,σ5,H5,I5,st5,fr5,w5⟩;obtain⟨hacc,turn5⟩:=turn i n acc σ5 H5 w5
  rcases turn5 with ⟨stop,qn⟩|⟨go,N,hN,step⟩
  .have d:=T.done Y hYp hYw hYK hYc i [] s5 σ5 H5 (fun _ _=>False) I5 (fY fr5) st5 stop
   rw[hYA]at d
   refine thn d fun r s6 ⟨hr,I6⟩=>?_
   subst hr;obtain⟨m,hn,_⟩:=id I6.loc;rw[hYe]at hn;have fC:H5 s3.heap.objs.size=none:=by
    have:=I6.free;rw[hYe]at this;exact this
   have hok6:HOk X.prog X.w H5 s6.heap:=by
    have:=I6.hok;rw[hYp,hYw]at this;exact this
   have un6:Un (zX X.stack) fp (zi H2 s2.heap.objs.size (.lst [])) H5 s3.heap s6.heap:=by
    have:=I6.base;subst hY;exact this
   have os6:s6.os=s3.os:=by
    have:=I6.os;subst hY;exact this
   have IX:Inv X pins σ H5 s6:=I3.call' (ch:=fp) os6 un6 hok6 I6.bare fun b hb=>⟨(f3 b hb).2.2.2.1,(f3 b hb).2.1,(f3 b hb).2.2.2.2.1,(f3 b hb).2.2.2.2.2⟩
   refine hRR _ _ s6 ⟨⟨H5,IX,fC,qn⟩,⟨m,hn⟩,Ci I3.lt,I3.nofs (Ag _),I3.sz,fun x c e z=>?_,fun p hp z=>?_⟩
   .obtain⟨v,q⟩:=I3.cell x c e
    exact absurd q.lt (by rw[z];exact Bn _)
   .exact absurd (Af (I3.pin p hp).1) (by rw[z];exact Bn _)
  .have d:=T.item Y hYp hYw hYK hYc i [] s5 σ5 H5 (fun _ _=>False) I5 (fY fr5) st5 go
   rw[hYA]at d
   refine thn d fun r s6 ⟨u,hr,h6⟩=>?_
   subst hr
   refine thn h6 fun _ s7 ⟨x,H7,I7,r7,y7,st7,fr7⟩=>?_
   have I7':=I7.pinned (fY fr7) (T.obj _ _ st7);have g7:=hgC _ s7 σ5 H7 x u _ I7' r7 (step x H7 y7);rw[hYp,hYw,hYA,hYe,hYx]at g7
   refine thn g7 fun _ s8 ⟨σ8,H8,I8,q8⟩=>?_
   have t8:=htC _ s8 σ8 H8 _ I8 q8;rw[hYp,hYw,hYA,hYe,hYx]at t8;have back:∀{σ9:St} {H9:Hp} {s9:Shared} {acc':List V},Inv Y ([]++EH fp s7.heap) σ9 H9 s9->N acc' σ9 H9->∃m,m<n/\∃i acc σ' H',Inv Y [] σ' H' s9/\tn i s9.heap/\(∀b∈fp,H' b=none)/\W i m acc σ' H':=fun {σ9 H9 s9 acc'} I9 w9=>by
    obtain⟨m',hm,w9⟩:=hN _ _ _ w9
    refine⟨m',hm,i+1,acc',σ9,H9,I9.unpinned,T.keep _ _ _ st7 fun b hb o e=>(I9.pin (b,o) (Br _ (Br _ (Gs hb e)))).1,fun b hb=>?_,w9⟩
    obtain⟨o,e,d⟩:=T.obj _ _ st7 b hb;exact (I9.pin (b,o) (Br _ (Br _ (Gs hb e)))).2.1
   refine thn t8 fun ok s9 ⟨H9,I9,q9⟩=>?_
   cases ok with
   |false=>
    rw[Ac (by simp)]at q9 ⊢
    exact back I9 q9
   |true=>
    rw[Aa rfl]at q9 ⊢;have e9:=heC _ s9 σ8 H9 _ I9 q9;rw[hYp,hYw,hYA,hYe,hYx]at e9
    refine thn e9 fun y s10 ⟨z,H10,I10,r10,hacc10,hlen,w10⟩=>?_
    have a10:=BL (X:=Y) _ s10 σ8 H10 (.ref s2.heap.objs.size) [z] (.ref s2.heap.objs.size) [y] (fun _ H'=>N (acc++[z]) σ8 H') I10 rfl (.cons r10 .nil) ⟨_,_,z,rfl,rfl,hacc10,hlen,w10⟩
    rw[hYp,hYw,hYA,hYx]at a10;exact thn a10 fun _ s11 ⟨_,H11,I11,_,w11⟩=>back I11 w11
 exact codeAny_compStart_list loop (T.self X.A 0 _ _ _ st4 loop)
def OY {elt tg iter:Expr} {ifs:List Expr} {loc free:List Str} {fr:List Nat} {scope:Scope} {pos:Pos} {wi:TI} {g:TG} {tc:TT} {te:TE} (hc:X.calm=true) (S:CompScope X loc free fr scope) (hi:PI X tg iter wi)
  (hg:∀cl C s H ex,PG (yN X (loc++free) scope cl C s H ex) tg g) (ht:∀cl C s H ex,PTs (yN X (loc++free) scope cl C s H ex) ifs tc) (he:∀cl C s H ex,PE (yN X (loc++free) scope cl C s H ex) elt te)
  (hs:∀x,foldedSetIterable iter X.env x=pure x:=by intro _;rfl):PE X (.ListComp elt [⟨tg,iter,ifs,0⟩] scope pos) (Gx wi loc.length fr g tc te):=by
 intro pins s σ H Q I h;rw[eval_ListComp];obtain⟨cl,hcl,hc1,hc2⟩:=Kp (scope:=scope) (env:=X.env) fun y hy hf=>I.ok.has y.1 (S.frees y hy hf)
 refine wpAny_comprehension_free (use:=none) rfl hs hcl S.kind S.names ?_
 refine Ks (RR:=fun acc C=>compPost (model X.prog X.w) X.A X.xe none (EP X pins σ Q) acc C) hc S hi hg ht he I h hc1 hc2 fun D C s6 ce=>?_
 obtain⟨H5,IX,fC,q⟩:=ce.inv;obtain⟨m,hn⟩:=ce.ns;exact⟨m,hn,fun h7 hs7=>⟨.ref D,H5,IX.turned (t':=s6.toks) (fun b o hb e=>hs7.extBut b o hb e) fC ce.neL (.inr ce.new) ce.cel ce.pin,rfl,q⟩⟩
def OZ {i:Nat} {y:Str} {py:Pos} {spos:Pos} {elt tg iter:Expr} {ifs:List Expr} {loc free:List Str} {fr:List Nat} {scope:Scope} {pos:Pos} {wi:TI} {g:TG} {tc:TT} {te:TE} (hN:X.N.Nodup) (hi':X.N[i]? =some y) (hx:X.env.scope.names.lookup y=some .local)
  (hc:X.calm=true) (S:CompScope X loc free fr scope) (hi:PI X tg iter wi)
  (hg:∀cl C s H ex,PG (yN X (loc++free) scope cl C s H ex) tg g) (ht:∀cl C s H ex,PTs (yN X (loc++free) scope cl C s H ex) ifs tc) (he:∀cl C s H ex,PE (yN X (loc++free) scope cl C s H ex) elt te)
  (hs:∀x,foldedSetIterable iter X.env x=pure x:=by intro _;rfl)
  (hsw:swapsWith (.ListComp elt [⟨tg,iter,ifs,0⟩] scope pos) (some (.Name y py)) spos.line X.env=pure true:=by rfl):
  PS X (.Assign [.Name y py] (.ListComp elt [⟨tg,iter,ifs,0⟩] scope pos) spos) (tAsg (Gx wi loc.length fr g tc te) (EF i)):=by
 intro pins s σ H D I h;obtain⟨cl,hcl,hc1,hc2⟩:=Kp (scope:=scope) (env:=X.env) fun y hy hf=>I.ok.has y.1 (S.frees y hy hf)
 rw[exec_Assign_Name_used _ _ _ _ hsw]
 refine Ab (D9 (Ab ?_))
 show wpAny _ X.A (do let _ <-comprehension (.ListComp elt [⟨tg,iter,ifs,0⟩] scope pos) scope X.env _ (newList []) false (eval iter X.env) (some (assign (.Name y py) X.env))) _ _ s
 refine Ab (Bj (wpAny_comprehension_free (use:=some (assign (.Name y py) X.env)) (Q:=fun _ s'=>SP X pins D .next s') rfl hs hcl S.kind S.names ?_) (fun _ s' hq=>Ad (Ad hq)) fun _ _ e=>e)
 refine Ks (RR:=fun acc C=>compPost (model X.prog X.w) X.A X.xe (some (assign (.Name y py) X.env)) (fun _ s'=>SP X pins D .next s') acc C) hc S hi hg ht he I h hc1 hc2 fun L C s6 ce=>?_
 obtain⟨H5,IX,fC,q⟩:=ce.inv;obtain⟨m,oC,es,ep,ho,hd,hk⟩:=ce.ns;show wpAny _ X.A (assign (.Name y py) X.env (.ref L)) _ _ s6;have IP:Inv X (pins++[(C,oC)]) σ H5 s6:=IX.pins_of fun p hp=>(Aw.mp hp).elim (fun z=>IX.pin p (Br _ z)) fun z=>by
  rw[As.mp z];exact⟨ho,fC,ce.neL,ce.nfs,fun v e=>by rw[hd]at e;cases e⟩
 refine wpAny_assign_Name (EC IP hN hi' (.inl hx) (v:= .ref L) rfl (fun s' I'=>?_) (.inr hx))
 have pc:=I'.pin (C,oC) (Br _ (Br _ Aj))
 refine⟨m,⟨oC,es,ep,pc.1,hd,hk⟩,fun h7 hs7=>?_⟩
 exact⟨_,H5,I'.unpinned.turned (t':=s'.toks) (fun b o hb e=>hs7.extBut b o hb e) fC ce.neL (.inr ce.new) ce.cel ce.pin,q⟩
end
section
variable {X:Cx} {pins:AL} {σ:St} {H:Hp} {s:Shared} {h':Heap}
def Inv.turnLay {ch:List Addr} {a:Addr} {o:HO} {t':Nat} (I:Inv X pins σ H s) (k:∀b u,b∉ch->s.heap.get? b=some u->h'.get? b=some u) (hch:∀b∈ch,yo X pins H b)
  (hp:s.heap.objs.size<=a) (new:ObjOk X.prog X.w (zi H a o) h' a o):Inv X pins σ (zi H a o) {s with heap:=h',toks:=t'}:=by
 have hn:H a=none:=I.hok.fresh hp;have ne:∀b u,s.heap.get? b=some u->b≠a:=fun b u e=>Aq (Ay (Af e) hp)
 have nc:∀b u,H b=some u->b∉ch:=fun b u e hb=>by have:=(hch b hb).1;rw[e]at this;cases this
 refine I.step (g':=s.gens) (d':=s.drawn) (ch:=ch) (fun b hb=>⟨(hch b hb).2.2.2.1,(hch b hb).2.1,(hch b hb).2.2.2.2.1,(hch b hb).2.2.2.2.2⟩) (fun b u _ _ hc e _=>k b u hc e) (fun b u _ _ hc e _=>⟨u.slots,k b u hc e⟩)
  (fun b u _ e n=>by rw[zy (ne b u e)];exact n) (fun b u hc e=>⟨u,k b u hc e⟩) (fun b xs e=>by rw[zy (yw e hn)];exact e) (fun b u v e=>by rw[zy (yw e hn)];exact e)
  (fun b ps e=>⟨#[],by rw[zy (yw e hn)];rw[e];simp⟩) (fun m hm=>?_) (fun b u e=>?_) I.bare
 .obtain⟨ob,es,ep,ho,r⟩:=hm
  refine⟨ob,es,ep,k _ ob (fun hb=>(hch _ hb).2.1 rfl) ho,r⟩
 .by_cases hb:b=a
  .subst hb;rw[z6]at e;cases e;exact new
  .rw[zy hb]at e
   refine (I.hok b u e).stay (fun c v hc q=>k c v ?_ q) (fun c q=>by rw[zy (yw q hn)];exact q) fun c xs q=>by rw[zy (yw q hn)];exact q
   rcases hc with z|z
   .rw[z];exact nc b u e
   .exact nc c _ z
def Inv.turnedL {ch:List Addr} {t':Nat} (I:Inv X pins σ H s) (k:∀b u,b∉ch->s.heap.get? b=some u->h'.get? b=some u) (hch:∀b∈ch,yo X pins H b):Inv X pins σ H {s with heap:=h',toks:=t'}:=by
 have nc:∀b u,H b=some u->b∉ch:=fun b u e hb=>by have:=(hch b hb).1;rw[e]at this;cases this
 refine I.step (g':=s.gens) (d':=s.drawn) (ch:=ch) (fun b hb=>⟨(hch b hb).2.2.2.1,(hch b hb).2.1,(hch b hb).2.2.2.2.1,(hch b hb).2.2.2.2.2⟩) (fun b u _ _ hc e _=>k b u hc e) (fun b u _ _ hc e _=>⟨u.slots,k b u hc e⟩)
  (fun b u _ e n=>n) (fun b u hc e=>⟨u,k b u hc e⟩) (fun b xs e=>e) (fun b u v e=>e) (fun b ps e=>⟨#[],by rw[e];simp⟩) (fun m hm=>?_) (fun b u e=>?_) I.bare
 .obtain⟨ob,es,ep,ho,r⟩:=hm
  refine⟨ob,es,ep,k _ ob (fun hb=>(hch _ hb).2.1 rfl) ho,r⟩
 .refine (I.hok b u e).stay (fun c v hc q=>k c v ?_ q) (fun c q=>q) fun c xs q=>q
  rcases hc with z|z
  .rw[z];exact nc b u e
  .exact nc c _ z
end
section
variable {X:Cx}
def Pa:yy X (.builtin "isinstance") (fun xs H Q=> ∃x T t b,xs=[x,.ty T]/\TyOf X.K H x t/\PySem.W.kitOne X.K t (.type T)=some b/\Q (.bl b) H):=by
 intro pins s σ H xs us Q I r h;obtain⟨x,T,t,b,rfl,ty,e,q⟩:=h;obtain⟨u,v,rfl,rx,ry⟩:=EJ r;cases ry;exact Oh I rx ty e fun tk=>⟨.bl b,H,I.tok tk,rfl,q⟩
def HA {A:Around} (h:A.handled=none):A.in1.handled=none:=h
def Pb (hc:X.calm=true):yy X (.builtin "all") (fun xs H Q=> ∃(p:Addr) (bs:List Bool),xs=[.ref p]/\SqL X.K H p (bs.map V.bl)/\Q (.bl (bs.all id)) H):=by
 intro pins s σ H xs us Q I r h;obtain⟨p,bs,rfl,hq,q⟩:=h;obtain⟨u,rfl,rx⟩:=AQ r;cases rx;obtain⟨its,rv,pl,hz⟩:=I.list hq
 refine call_all_walk (Dn pl.isList ?_)
 have hp:p<s.heap.objs.size:=by obtain⟨o,n,e,_⟩:=pl;exact Af e
 have hlen:its.length=bs.length:=by rw[<-rv.length,Ah]
 refine⟨s.heap.objs.size,_,_,_,_,_,fun i=>bs.getD i true,rfl,Walks.list (HA (I.ok.hd hc)) _ p (Aq hp) its.toArray,⟨⟨_,A6 _ rfl,rfl,rfl⟩,pl.isList.push _⟩,?_,fun h' tk k=>?_⟩
 .intro i v s' Q' E' hv hQ
  have hv':its[i]? =some v:=by simpa using hv
  have hi:i<bs.length:=by rw[<-hlen];exact (An.mp hv').1
  obtain⟨u,hu,ru⟩:=rv.get (i:=i) (x:= .bl bs[i]) (by simp[hi])
  rw[hv']at hu;cases hu;cases ru
  refine Cb ?_
  have e:bs.getD i true=bs[i]:=by simp[hi]
  dsimp only at hQ;rw[e]at hQ;exact hQ
 .refine⟨.bl _,H,I.kept (t':=tk) (fun b o e=>k b o (by simpa using Aq (Af e)) (Ao _ e)),?_,q⟩
  show Value.bool _=Value.bool _
  congr 1
  rw[Ak,hlen];have:∀(bs:List Bool) (n:Nat),n=bs.length->(List.range n).all (fun i=>bs.getD i true)=bs.all id:=by
   intro bs n hn;rw[Co,Ey,Ey]
   constructor
   .intro h x hx
    obtain⟨i,hi,rfl⟩:=List.mem_iff_getElem.mp hx;have:=h i (Bv.mpr (by lia))
    simpa[hi] using this
   .intro h i hi
    have hi':i<bs.length:=by have:=Bv.mp hi;lia
    have:=h bs[i] (Df hi');simpa[hi'] using this
  exact this bs _ rfl
def Pc (hc:X.calm=true):yy X (.builtin "any") (fun xs H Q=> ∃(p:Addr) (bs:List Bool),xs=[.ref p]/\SqL X.K H p (bs.map V.bl)/\Q (.bl (bs.any id)) H):=by
 intro pins s σ H xs us Q I r h;obtain⟨p,bs,rfl,hq,q⟩:=h;obtain⟨u,rfl,rx⟩:=AQ r;cases rx;obtain⟨its,rv,pl,hz⟩:=I.list hq
 refine call_any_walk (Dn pl.isList ?_)
 have hp:p<s.heap.objs.size:=by obtain⟨o,n,e,_⟩:=pl;exact Af e
 have hlen:its.length=bs.length:=by rw[<-rv.length,Ah]
 refine⟨s.heap.objs.size,_,_,_,_,_,fun i=>bs.getD i false,rfl,Walks.list (HA (I.ok.hd hc)) _ p (Aq hp) its.toArray,⟨⟨_,A6 _ rfl,rfl,rfl⟩,pl.isList.push _⟩,?_,fun h' tk k=>?_⟩
 .intro i v s' Q' E' hv hQ
  have hv':its[i]? =some v:=by simpa using hv
  have hi:i<bs.length:=by rw[<-hlen];exact (An.mp hv').1
  obtain⟨u,hu,ru⟩:=rv.get (i:=i) (x:= .bl bs[i]) (by simp[hi])
  rw[hv']at hu;cases hu;cases ru
  refine Cb ?_
  have e:bs.getD i false=bs[i]:=by simp[hi]
  dsimp only at hQ;rw[e]at hQ;exact hQ
 .refine⟨.bl _,H,I.kept (t':=tk) (fun b o e=>k b o (by simpa using Aq (Af e)) (Ao _ e)),?_,q⟩
  show Value.bool _=Value.bool _
  congr 1
  rw[Ak,hlen];have:∀(bs:List Bool) (n:Nat),n=bs.length->(List.range n).any (fun i=>bs.getD i false)=bs.any id:=by
   intro bs n hn;rw[Co,C2,C2]
   constructor
   .rintro⟨i,hi,h⟩
    have hi':i<bs.length:=by have:=Bv.mp hi;lia
    exact⟨bs[i],Df hi',by simpa[hi'] using h⟩
   .rintro⟨x,hx,h⟩
    obtain⟨i,hi,rfl⟩:=List.mem_iff_getElem.mp hx;exact⟨i,Bv.mpr (by lia),by simpa[hi] using h⟩
  exact this bs _ rfl
theorem HB (ns:List Int):∀k,k<=ns.length->preSum (fun i=>ns.getD i 0) k=(ns.take k).sum
 |0,_=>by simp[preSum]
 |k+1,h=>by
  have hk:k<ns.length:=h;have e:ns.take (k+1)=ns.take k++[ns[k]]:=by rw[Ez];simp[hk]
  rw[preSum,HB ns k (by lia),e,List.sum_append]
  simp[hk]
def HC (ns:List Int):Prop:=∀j,j<ns.length->InLong (ns.getD j 0)/\InLong ((ns.take (j+1)).sum)
def Pd (hc:X.calm=true):yy X (.builtin "sum") (fun xs H Q=> ∃(p:Addr) (ns:List Int),xs=[.ref p]/\SqL X.K H p (ns.map V.int)/\HC ns/\Q (.int ns.sum) H):=by
 intro pins s σ H xs us Q I r h;obtain⟨p,ns,rfl,hq,ok,q⟩:=h;obtain⟨u,rfl,rx⟩:=AQ r;cases rx;obtain⟨its,rv,pl,hz⟩:=I.list hq
 refine call_sum_walk (Dn pl.isList ?_)
 have hp:p<s.heap.objs.size:=by obtain⟨o,n,e,_⟩:=pl;exact Af e
 have hlen:its.length=ns.length:=by rw[<-rv.length,Ah]
 refine⟨s.heap.objs.size,_,_,_,_,_,fun i=>ns.getD i 0,rfl,Walks.list (HA (I.ok.hd hc)) _ p (Aq hp) its.toArray,⟨⟨_,A6 _ rfl,rfl,rfl⟩,pl.isList.push _⟩,?_,?_,?_,fun h' tk t' k=>?_⟩
 .intro b hb
  have hs:(s.heap.push {cls:= .type "list_iterator",data:= .fields #[.ref p,.int 0 0]}).objs.size=s.heap.objs.size+1:=B4 ..;show b<(s.heap.push {cls:= .type "list_iterator",data:= .fields #[.ref p,.int 0 0]}).objs.size;rw[hs]
  rcases Ae.mp hb with rfl|hb
  .exact Da _
  .have:b=p:=by simpa using hb
   subst this;exact Ee hp
 .intro i v hv
  have hv':its[i]? =some v:=by simpa using hv
  have hi:i<ns.length:=by rw[<-hlen];exact (An.mp hv').1
  obtain⟨u,hu,ru⟩:=rv.get (i:=i) (x:= .int ns[i]) (by simp[hi])
  rw[hv']at hu;cases hu;obtain⟨t,e⟩:=ru;exact⟨t,by rw[e];simp[hi]⟩
 .intro j hj
  have hj':j<ns.length:=by rw[<-hlen];simpa using hj
  rw[HB ns (j+1) hj'];exact ok j hj'
 .refine⟨.int _,H,I.kept (t':=tk) (fun b o e=>k b o (by simpa using Aq (Af e)) (Ao _ e)),⟨t',?_⟩,q⟩
  show Value.int _ _=Value.int _ _
  congr 1
  rw[Ak,hlen,HB ns _ (Ag _),E5]
end
end L2
namespace L2
open PySem PySem.W PySem.Spec PyProof.Rows
def Itz (K:FG) (a b:Addr):It:=
 ⟨fun i H=> ∃(xs ys:List V) (x y:V),SqL K H a xs/\SqL K H b ys/\xs[i]? =some x/\ys[i]? =some y,
  fun i H v H'=> ∃(T:Addr) (x y:V),v=.ref T/\H T=none/\H'=zi H T (.tup [x,y])/\(∀xs,SqL K H a xs->xs[i]? =some x)/\∀ys,SqL K H b ys->ys[i]? =some y,
  fun i H=> ∃xs ys,SqL K H a xs/\SqL K H b ys/\(xs.length<=i\/ys.length<=i)⟩
def Pe (z TI TO i1 i2 a b:Addr) (i:Nat) (h:Heap):Prop:=
 IsZip h z TI TO .none/\IsPair h TI (.ref i1) (.ref i2)/\(∃u v,IsPair h TO u v)/\h.IsListIter i1 a i/\h.IsListIter i2 b i
def Pf {P:Program} {w:World} {K:FG} {elts:List Expr} {x1} {tp:Pos} {z TI TO i1 i2 a b:Addr} (D:ZipApart z TI TO i1 i2 a b):
  Turn P w K (.Tuple elts x1 tp) (Itz K a b) [z,TI,TO,i1,i2] z (Pe z TI TO i1 i2 a b) where
 mem:=by simp
 obj:=fun i h st c hc=>by
  obtain⟨hz,hTI,⟨u,v,hTO⟩,⟨o1,e1,_,d1⟩,⟨o2,e2,_,d2⟩⟩:=st;simp only[Ae,Bg,Bb]at hc
  rcases hc with rfl|rfl|rfl|rfl|rfl
  .exact⟨_,hz,fun v e=>by cases e⟩
  .exact⟨_,hTI,fun v e=>by cases e⟩
  .exact⟨_,hTO,fun v e=>by cases e⟩
  .exact⟨_,e1,fun v e=>by rw[d1]at e;cases e⟩
  .exact⟨_,e2,fun v e=>by rw[d2]at e;cases e⟩
 keep:=fun i h h' st k=>by
  obtain⟨hz,hTI,⟨u,v,hTO⟩,h1,h2⟩:=st;exact⟨k z (by simp) _ hz,k TI (by simp) _ hTI,⟨u,v,k TO (by simp) _ hTO⟩,h1.at fun o e=>k i1 (by simp) o e,h2.at fun o e=>k i2 (by simp) o e⟩
 item:=fun X hp hw hK hc i pins s σ H E I fp st go=>by
  subst hp hw hK;obtain⟨hz,hTI,⟨u,v,hTO⟩,h1,h2⟩:=st;obtain⟨xs,ys,x,y,qa,qb,ex,ey⟩:=go;obtain⟨vs,rv,pv,_⟩:=I.list qa;obtain⟨us,ru,pu,_⟩:=I.list qb;obtain⟨vx,evx,rvx⟩:=rv.get ex;obtain⟨uy,euy,ruy⟩:=ru.get ey
  refine wpAny_pyNext_zip_item D hz hTI hTO h1 h2 pv.isList pu.isList (x:=vx) (y:=uy) (by simpa using evx) (by simpa using euy) fun h' a1 a2 a3 a4 a5 a6 hk=>?_
  refine⟨_,rfl,wpAny_letOwnedTupleGo_zip a1 fun h'' b1 b2=>?_⟩
  have nz:s.heap.objs.size≠z:=Ci (Af hz);have k2:∀c o,c∉[z,TO,i1,i2]->s.heap.get? c=some o->h''.get? c=some o:=fun c o hcn e=>by
   simp only[Ae,Bg,Bb,not_or]at hcn;exact b2.extBut _ _ hcn.1 (hk c o hcn.1 hcn.2.1 hcn.2.2.1 hcn.2.2.2 e)
  have I':Inv X pins σ (zi H s.heap.objs.size (.tup [x,y])) {s with heap:=h'',toks:=s.toks}:=
   I.turnLay (ch:=[z,TO,i1,i2]) k2 (fun c hcn=>fp c (by simp only[Ae,Bg,Bb]at hcn ⊢;rcases hcn with h|h|h|h<;>simp[h])) (Ag _)
    ⟨by show 2<=sizeLine;decide,[vx,uy],.cons rvx (.cons ruy .nil),⟨_,b2.extBut _ _ nz a5,rfl,_,rfl⟩⟩
  have nf:H s.heap.objs.size=none:=I.hok.fresh (Ag _)
  refine⟨.ref s.heap.objs.size,_,I',rfl,⟨_,x,y,rfl,nf,rfl,fun xs' q=>?_,fun ys' q=>?_⟩,⟨b1,b2.extBut _ _ D.TIz (hk _ _ D.TIz D.TITO D.TIi1 D.TIi2 hTI),⟨_,_,b2.extBut _ _ D.TOz a2⟩,a3.extBut b2.extBut D.i1z,a4.extBut b2.extBut D.i2z⟩,fun c hcn=>?_⟩
  .rw[I.list_inj q qa];exact ex
  .rw[I.list_inj q qb];exact ey
  .have hc1:=fp c hcn
   have:c≠s.heap.objs.size:=by
    have hlt:c<s.heap.objs.size:=by
     simp only[Ae,Bg,Bb]at hcn
     rcases hcn with rfl|rfl|rfl|rfl|rfl
     .exact Af hz
     .exact Af hTI
     .exact Af hTO
     .obtain⟨_,e,_⟩:=h1;exact Af e
     .obtain⟨_,e,_⟩:=h2;exact Af e
    exact Aq hlt
   rw[zy this];exact hc1.1
 done:=fun X hp hw hK hc i pins s σ H E I fp st stop=>by
  subst hp hw hK;obtain⟨hz,hTI,⟨u,v,hTO⟩,h1,h2⟩:=st;obtain⟨xs,ys,qa,qb,hend⟩:=stop;obtain⟨vs,rv,pv,_⟩:=I.list qa;obtain⟨us,ru,pu,_⟩:=I.list qb;have l1:=rv.length;have l2:=ru.length
  refine wpAny_pyNext_zip_end (I.ok.hd hc) D hz hTI hTO h1 h2 pv.isList pu.isList ?_ fun h' hk=>⟨rfl,?_⟩
  .rcases hend with h|h
   .exact .inl (by rw[Fs,Ak];lia)
   .exact .inr (by rw[Fs,Ak];lia)
  .refine I.turnedL (ch:=[z,TO,i1,i2]) (t':=s.toks) (fun c o hcn e=>?_) (fun c hcn=>fp c (by simp only[Ae,Bg,Bb]at hcn ⊢;rcases hcn with h|h|h|h<;>simp[h]))
   simp only[Ae,Bg,Bb,not_or]at hcn;exact hk c o hcn.1 hcn.2.1 hcn.2.2.1 hcn.2.2.2 e
 self:=fun A i s Q E st h=>wpAny_pyIter_zip st.1 h
def iZip (K:FG) (ta:TA):TI:=fun σ H R=>ta σ H fun vs H1=> ∃(a b:Addr) (xs ys:List V),vs=[.ref a,.ref b]/\SqL K H1 a xs/\SqL K H1 b ys/\R (Itz K a b) H1
def Pg {X:Cx} {elts:List Expr} {x1} {tp:Pos} {e1 e2:Expr} {ta:TA} {p pos:Pos} (hg:Gl X "zip") (hm:X.mg "zip" =none) (ha:PA X [e1,e2] ta) (hs:starEach [e1,e2] X.env=[(false,eval e1 X.env),(false,eval e2 X.env)]:=by rfl) (hs2:starEach [e2] X.env=[(false,eval e2 X.env)]:=by rfl):
  PI X (.Tuple elts x1 tp) (.Call (.Name "zip" p) [e1,e2] [] pos) (iZip X.K ta):=by
 intro pins s σ H R I h
 refine Call_ (AM I hg hm (by rfl) (Do (thn (ha pos pins s σ H _ I h) fun us s1 ⟨vs,H1,I1,r1,q1⟩=>?_) (by rw[hs,hs2]) (by rw[hs2];rfl)))
 obtain⟨a,b,xs,ys,rfl,qa,qb,q⟩:=q1;obtain⟨u,v,rfl,ru,rv⟩:=EJ r1;cases ru;cases rv;obtain⟨vs,rva,pa,_⟩:=I1.list qa;obtain⟨us,rvb,pb,_⟩:=I1.list qb;have la:a<s1.heap.objs.size:=by obtain⟨o,n,e,_⟩:=pa;exact Af e
 have lb:b<s1.heap.objs.size:=by obtain⟨o,n,e,_⟩:=pb;exact Af e
 refine call_zip_2 pa.isList pb.isList fun h' hz hTI hTO hi1 hi2 hsz hk=>?_
 refine wpAny_pyIter_zip hz ?_
 have I2:Inv X pins σ H1 {s1 with heap:=h'}:=I1.kept (t':=s1.toks) hk
 refine⟨_,[s1.heap.objs.size+4,s1.heap.objs.size+2,s1.heap.objs.size+3,s1.heap.objs.size,s1.heap.objs.size+1],_,_,H1,rfl,I2,Pf (zipApart_new la lb),⟨hz,hTI,⟨_,_,hTO⟩,hi1,hi2⟩,fun c hc=>?_,q⟩
 have hge:s1.heap.objs.size<=c:=by
  simp only[Ae,Bg,Bb]at hc
  rcases hc with rfl|rfl|rfl|rfl|rfl
  all_goals first|exact Ag _|exact Nat.le_add_right _ _
 exact I1.fpOk hge (I1.hok.fresh hge)
def Kt (sc:Scope) (N loc free:List Str) (fr:List Nat) (scope:Scope):Bool:=
 decide (scope.kind=.function) && scope.names.all (fun y=>decide (y.2≠ .cell)) && scope.names.all (fun y=>decide (y.2≠ .local) || decide (scope.names.lookup y.1=some .local)) &&
 scope.names.all (fun y=>decide (y.2≠ .free) || (decide (sc.names.lookup y.1=some .cell) || decide (sc.names.lookup y.1=some .free))) && decide (fr.length=free.length) &&
 (List.range fr.length).all fun i=>match fr[i]?,free[i]? with
  |some j,some x=>decide (N[j]? =some x) && decide (scope.names.lookup x=some .free)
  |_,_=>true
def AS {X:Cx} {sc:Scope} {N loc free:List Str} {fr:List Nat} {scope:Scope} (e1:X.env.scope=sc) (e2:X.N=N) (h:Kt sc N loc free fr scope=true):CompScope X loc free fr scope:=by
 unfold Kt at h;simp only[Ar,Ey,Bool.or_eq_true,Bq]at h;obtain⟨⟨⟨⟨⟨h1,h2⟩,h3⟩,h4⟩,h5⟩,h6⟩:=h
 refine⟨h1,fun y hy=>h2 y hy,fun y hy hl=>(h3 y hy).elim (fun z=>absurd hl z) id,fun y hy hf=>?_,fun i j x a b=>?_,h5⟩
 .show X.env.scope.names.lookup y.1=some .cell\/X.env.scope.names.lookup y.1=some .free
  rw[e1];exact (h4 y hy).elim (fun z=>absurd hf z) id
 .have hi:i<fr.length:=(An.mp a).1
  have:=h6 i (Bv.mpr hi);rw[a,b]at this;simp only[Ar,Bq]at this;rw[e2];exact this
def pgc {X:Cx} {x:Str} {pos:Pos} (i:Nat) (N:List Str) (nd:N.Nodup) (eN:X.N=N) (hi:N[i]? =some x) (hx:qH X.env.scope x) (hl:X.env.scope.names.lookup x=some .local):PG X (.Name x pos) (EF i):=
 Hs (eN ▸ nd) (by rw[eN];exact hi) hx (.inr hl)
structure Dfn (K:FG) (mg:Str->Option Value) (x:Str) (st:Stmt) (ps:List Str) (f:Addr) (fd:FuncData):Prop where
 F:Fun K x x st f fd
 b:Binds K fd ps []
 g:mg x=some (.ref f)
structure DfnM (K:FG) (x qual:Str) (st:Stmt) (ps:List Str) (f:Addr) (fd:FuncData):Prop where
 F:Fun K x qual st f fd
 b:Binds K fd ps []
section
variable {X:Cx} {K:FG}
def pgT {pos:Pos} {es:List Expr} {k:Nat} {t:qS} (n:Nat) (hK:X.K=K) (hc:X.calm=true) (h:qA X es t) (hn:(assignEach es X.env).length=n:=by rfl) (hst:(assignEach es X.env).findIdx? (·.1)=none:=by rfl):PG X (.Tuple es k pos) (gTup K n t):=by
 subst hK;exact BX hc h hn hst
end
end L2
namespace L2
open PySem PySem.Spec PyProof.Rows
def TrD (h base:Heap) (e:Addr) (cls a0:Value) (dd:Option Addr) (fl:Value):Prop:=
 ∃oe vs T oT ts,h.get? e=some oe/\(oe.cls=cls/\oe.dict=dd/\vs[0]? =some a0)/\oe.data=.fields vs/\vs[1]? =some (.ref T)/\base.get? T=none/\T≠e/\h.get? T=some oT/\oT.data=.fields ts/\ts[3]? =some fl
def qy (base:Heap) (l:List Env) (e:Addr) (cls a0:Value) (dd:Option Addr) (fl:Value) (h:Heap):Prop:=base.StaysIn h/\base.get? e=none/\h.FunFrames base l/\TrD h base e cls a0 dd fl
def Ph (o:Obj) (f:Array Value->Array Value):(Obj.mapFields f o).dict=o.dict:=by
 obtain⟨c,d,dt,sl⟩:=o;cases dt<;>rfl
section
variable {M:Model} {A:Around} {E:VP} {s:Shared} {base:Heap} {env:Env} {outer l:List Env} {L e:Addr} {oe:Obj} {vs:Array Value} {head a0 cls fl:Value} {dd:Option Addr} {hadNext:Bool} {Q:Unit->Shared->Prop}
theorem Ku (hfr:A.frames=some (env::outer)) (hl:s.heap.FunFrames base (env::outer)) (hf:env.frame=some L)
  (he:s.heap.get? e=some oe) (hkb:base.StaysIn s.heap) (hen:base.get? e=none) (hd:oe.data=.fields vs) (hsz:1<vs.size) (h0:vs[0]? =some a0)
  (h:∀h',qy base (env::outer) e oe.cls a0 oe.dict (rawInt L) h'->s.heap.UpToSlots h'->Q () {s with heap:=h'}):
  wpAny M A (do let a <-PySem.frameOf env;let pl <-entryPlaceOf L hadNext;let b <-EntryCells.newEntry head a .none (rawInt L) .none pl;setField (.ref e) 1 b) Q E s:=by
 have ne:e∉(env::outer).filterMap (·.frame):=fun hm=>by
  obtain⟨_,o,ho,hnf⟩:=hl.mem hm;rw[he]at ho;cases ho;exact hnf vs hd
 refine Ab (wpAny_frameOf_fun hfr hl hf fun g hg=>Ab (wpAny_entryPlaceOf fun pl hpl=>?_))
 unfold EntryCells.newEntry newFields
 refine Ab (B6 ?_ (hpl.sizeOk5 _ _ _ _ _))
 generalize hO:({cls:= .type "traceback",dict:=none,data:= .fields ([head,.ref L,.none,rawInt L,.none]++(if pl.isEmpty then List.replicate 6 Value.none else pl)).toArray}:Obj)=O
 have g1:g.get? e=some oe:=(hg.2.1 e ne).trans he;have kb:base.StaysIn g:=fun b o q=>(hg.2.1 b fun hm=>by rw[(hl.mem hm).1]at q;cases q).trans (hkb b o q)
 have g2:=Ao (h:=g) O g1
 refine E6 g2 hd hsz (h _ ?_ ?_)
 all_goals have te:g.objs.size≠e:=Ci (Af g1)
 all_goals have d3:=Obj.data_mapFields hd (·.setIfInBounds 1 (Value.ref g.objs.size))
 all_goals have g3:=C1 (Obj.mapFields (·.setIfInBounds 1 (Value.ref g.objs.size))) g2 (Obj.isFreed_of_fields d3)
 all_goals have t3:=(Cm (g.push O) (Obj.mapFields (·.setIfInBounds 1 (Value.ref g.objs.size))) (A5 te)).trans (A6 g (by rw[<-hO];rfl))
 all_goals have keep:∀b o,b≠e->g.get? b=some o->((g.push O).update e (Obj.mapFields (·.setIfInBounds 1 (Value.ref g.objs.size)))).get? b=some o:=fun b o hbe hb=>(Cm _ _ (A5 hbe)).trans (Ao _ hb)
 all_goals have nr:∀b o,s.heap.get? b=some o->(∀vs,o.data≠ .fields vs)->b≠e:=fun b o hb hnf q=>by rw[q,he]at hb;cases hb;exact hnf vs hd
 .refine⟨fun b o q=>keep b o (fun z=>by rw[z,hen]at q;cases q) (kb b o q),hen,hl.of_keeps fun b o hb hnf=>?_,?_⟩
  .obtain⟨sl,hs⟩:=hg.2.2 b o hb
   exact⟨_,keep b _ (nr b o hb hnf) hs,rfl⟩
  .exact⟨_,_,g.objs.size,O,([head,.ref L,.none,rawInt L,.none]++(if pl.isEmpty then List.replicate 6 Value.none else pl)).toArray,g3,⟨Obj.cls_mapFields _ _,Ph _ _,by rw[Array.getElem?_setIfInBounds_ne (by decide)];exact h0⟩,d3,by simp[hsz],kb.fresh,te,t3,by rw[<-hO],by first|(simp;done)|(rcases hpl with rfl|⟨_,_,_,_,_,_,_,rfl⟩<;>simp)⟩
 .intro b o hb hnf
  obtain⟨sl,hs⟩:=hg.2.2 b o hb;exact⟨sl,keep b _ (nr b o hb hnf) hs⟩
theorem EM (fo:Option Addr) (R:qy base l e cls a0 dd fl s.heap) (h:∀h',qy base l e cls a0 dd (fo.elim .none fun f=>rawInt f) h'->s.heap.UpToSlots h'->Q () {s with heap:=h'}):wpAny M A (setFlight (.ref e) fo) Q E s:=by
 obtain⟨k,en,hl,oe,vs,T,oT,ts,he,hcls,hd,h1,hnT,hTe,hT,hdT,h3⟩:=R;have z3:3<ts.size:=(C4.mp h3).1;have oth:∀b,b≠T->(s.heap.update T (Obj.mapFields (·.setIfInBounds 3 (fo.elim Value.none fun f=>rawInt f)))).get? b=s.heap.get? b:=fun b hb=>Cm _ _ (A5 hb)
 have nr:∀b o,s.heap.get? b=some o->(∀vs,o.data≠ .fields vs)->b≠T:=fun b o hb hnf q=>by rw[q,hT]at hb;cases hb;exact hnf ts hdT
 unfold setFlight
 refine Ab (Cz he hd h1 ?_)
 rw[Aa (show (Value.ref T !=Value.none)=true from by simp)]
 refine E6 hT hdT z3 (h _ ⟨fun b o q=>(oth b fun z=>by rw[z,hnT]at q;cases q).trans (k b o q),en,hl.of_keeps fun b o hb hnf=>⟨o,(oth b (nr b o hb hnf)).trans hb,rfl⟩,?_⟩ fun b o hb hnf=>⟨o.slots,(oth b (nr b o hb hnf)).trans hb⟩)
 exact⟨oe,vs,T,_,_,(oth e (A5 hTe)).trans he,hcls,hd,h1,hnT,hTe,C1 _ hT (Obj.isFreed_of_fields (Obj.data_mapFields hdT _)),Obj.data_mapFields hdT _,by simp[z3]⟩
theorem Kv (hfr:A.frames=some (env::outer)) (hf:env.frame=some L) (R:qy base (env::outer) e cls a0 dd .none s.heap)
  (h:∀h',qy base (env::outer) e cls a0 dd (rawInt L) h'->s.heap.UpToSlots h'->Q () {s with heap:=h'}):wpAny M A (noteFrame (.ref e) env) Q E s:=by
 obtain⟨k,en,hl,oe,vs,T,oT,ts,he,⟨rfl,rfl,h0⟩,hd,h1,hnT,hTe,hT,hdT,h3⟩:=R;unfold noteFrame;simp only[hf]
 refine Ab (Cz he hd h1 ?_)
 rw[Aa (show (Value.ref T !=Value.none)=true from by simp)]
 refine Ab (Cz hT hdT h3 ?_)
 rw[Ac (show ¬((Value.none==rawInt L)=true) from by simp[rawInt])]
 refine Ab (E6 hT hdT (C4.mp h3).1 ?_)
 have oth:∀b,b≠T->(s.heap.update T (Obj.mapFields (·.setIfInBounds 3 Value.none))).get? b=s.heap.get? b:=fun b hb=>Cm _ _ (A5 hb)
 have nr:∀b o,s.heap.get? b=some o->(∀vs,o.data≠ .fields vs)->b≠T:=fun b o hb hnf q=>by rw[q,hT]at hb;cases hb;exact hnf ts hdT
 exact Ku hfr (hl.of_keeps fun b o hb hnf=>⟨o,(oth b (nr b o hb hnf)).trans hb,rfl⟩) hf ((oth e (A5 hTe)).trans he) (fun b o q=>(oth b fun z=>by rw[z,hnT]at q;cases q).trans (k b o q)) en hd (C4.mp h1).1 h0
  fun h' x u=>h h' x fun b o hb hnf=>u b o ((oth b (nr b o hb hnf)).trans hb) hnf
def Pi (hfr:A.frames=some (env::outer)) (hl:s.heap.FunFrames base (env::outer)) (hf:env.frame=some L) (he:s.heap.get? e=some oe) (hkb:base.StaysIn s.heap) (hen:base.get? e=none) (hd:oe.data=.fields vs) (h1:vs[1]? =some .none) (h0:vs[0]? =some a0)
  (h:∀h',qy base (env::outer) e oe.cls a0 oe.dict .none h'->s.heap.UpToSlots h'->Q () {s with heap:=h'}):wpAny M A (leaving env (.ref e)) Q E s:=by
 unfold leaving noteFrame;simp only[hf]
 refine Ab (Ab (Cz he hd h1 ?_))
 rw[Ac (by decide)]
 exact Ku hfr hl hf he hkb hen hd (C4.mp h1).1 h0 fun h' x u=>EM none x fun h'' y v=>h h'' y (u.trans v)
theorem Pj (hfr:A.frames=some (env::outer)) (hf:env.frame=some L) (R:qy base (env::outer) e cls a0 dd .none s.heap) (h:∀h',qy base (env::outer) e cls a0 dd .none h'->s.heap.UpToSlots h'->Q () {s with heap:=h'}):wpAny M A (leaving env (.ref e)) Q E s:=by
 unfold leaving;exact Ab (Kv hfr hf R fun h' x u=>EM none x fun h'' y v=>h h'' y (u.trans v))
end
def Trc (h:Heap) (a T:Addr) (cls a0:Value) (dd:Option Addr):Prop:=
 ∃oe vs oT ts,h.get? a=some oe/\(oe.cls=cls/\oe.dict=dd/\vs[0]? =some a0)/\oe.data=.fields vs/\vs[1]? =some (.ref T)/\T≠a/\h.get? T=some oT/\oT.data=.fields ts/\ts[3]? =some .none
structure Left (l:List Env) (hid:List Addr) (a T':Addr) (cls a0:Value) (dd:Option Addr) (h h':Heap):Prop where
 keep:∀b o,h.get? b=some o->b∉hid->h'.get? b=some o
 slot:∀b o,h.get? b=some o->b∈zX l->∃sl,h'.get? b=some {o with slots:=sl}
 trc:Trc h' a T' cls a0 dd
 new:∀b o,h.get? b=some o->b∉hid->b≠T'
 nfr:T'∉zX l
section
variable {M:Model} {A:Around} {E:VP} {s:Shared} {base:Heap} {env:Env} {outer:List Env} {L a T:Addr} {cls a0:Value} {dd:Option Addr} {Q:Unit->Shared->Prop}
def HD {l:List Env}:∀env∈l,∀b,env.frame=some b->b∈zX l:=fun env he b hb=>Ea.mpr ⟨env,he,hb⟩
theorem Kw {l:List Env} {hid:List Addr} {h h':Heap} (hl:h.FunFrames base l) (x:qy (PySem.W.hideAll h hid) l a cls a0 dd .none h') (x4:h.UpToSlots h'):∃T',Left l hid a T' cls a0 dd h h':=by
 obtain⟨x1,_,x2,oe,vs,T',oT,ts,t1,t2,t3,t4,t5,t6,t7,t8,t9⟩:=x;have kp:∀b o,h.get? b=some o->b∉hid->(PySem.W.hideAll h hid).get? b=some o:=fun b o e n=>PySem.W.hideAll_get hid e n
 refine⟨T',fun b o e n=>x1 b o (kp b o e n),fun b o e hb=>?_,⟨oe,vs,oT,ts,t1,t2,t3,t4,t6,t7,t8,t9⟩,fun b o e n z=>?_,fun hb=>?_⟩
 .refine x4 b o e fun vs hv=>?_
  obtain⟨_,o',ho',hn⟩:=hl.mem hb;rw[e]at ho';cases ho';exact hn vs hv
 .have:=kp b o e n
  rw[z,t5]at this;cases this
 .obtain⟨_,o',ho',hn⟩:=x2.mem hb
  rw[t7]at ho';cases ho';exact hn ts t8
theorem Pk (hfr:A.frames=some (env::outer)) (hl:s.heap.FunFrames base (env::outer)) (hf:env.frame=some L) (tr:Trc s.heap a T cls a0 dd)
  (hQ:∀h' T',Left (env::outer) (a::T::zX (env::outer)) a T' cls a0 dd s.heap h'->Q () {s with heap:=h'}):wpAny M A (leaving env (.ref a)) Q E s:=by
 obtain⟨oe,vs,oT,ts,t1,t2,t3,t4,t6,t7,t8,t9⟩:=tr;have hid:∀b∈zX (env::outer),b∈a::T::zX (env::outer):=fun b hb=>.tail _ (.tail _ hb)
 refine Pj (base:=PySem.W.hideAll s.heap (a::T::zX (env::outer))) (cls:=cls) (a0:=a0) (dd:=dd) hfr hf ⟨fun b o q=>Ep _ q,Dm _ (.head _),Ft hl fun e he b hb=>hid b (HD e he b hb),
  oe,vs,T,oT,ts,t1,t2,t3,t4,Dm _ (.tail _ (.head _)),t6,t7,t8,t9⟩ fun h' x u=>?_
 obtain⟨T',y⟩:=Kw hl x u;exact hQ h' T' y
def Ky {oe:Obj} {vs:Array Value} (hfr:A.frames=some (env::outer)) (hl:s.heap.FunFrames base (env::outer)) (hf:env.frame=some L) (he:s.heap.get? a=some oe) (hd:oe.data=.fields vs) (h1:vs[1]? =some .none) (h0:vs[0]? =some a0)
  (hQ:∀h' T',Left (env::outer) (a::zX (env::outer)) a T' oe.cls a0 oe.dict s.heap h'->Q () {s with heap:=h'}):wpAny M A (leaving env (.ref a)) Q E s:=by
 have hid:∀b∈zX (env::outer),b∈a::zX (env::outer):=fun b hb=>.tail _ hb
 refine Pi (base:=PySem.W.hideAll s.heap (a::zX (env::outer))) hfr (Ft hl fun e he b hb=>hid b (HD e he b hb)) hf he (fun b o q=>Ep _ q) (Dm _ (.head _)) hd h1 h0 fun h' x u=>?_
 obtain⟨T',y⟩:=Kw hl x u;exact hQ h' T' y
end
def HOk.there {P:Program} {w:World} {H:Hp} {h:Heap} {a:Addr} {o:HO} (x:HOk P w H h) (q:H a=some o):∃ob,h.get? a=some ob:=by
 have this:=x a o q;cases e:h.get? a with
 |some ob=>exact⟨ob,rfl⟩
 |none=>
  exfalso
  cases o with
  |lst xs=>obtain⟨_,_,_,_,z⟩:=this;rw[e]at z;cases z
  |tup xs=>obtain⟨_,_,_,o1,z,_⟩:=this;rw[e]at z;cases z
  |dK kvs=>obtain⟨_,_,_,_,o,_,_,z,_⟩:=this;rw[e]at z;cases z
  |dT kvs=>obtain⟨_,_,_,_,o,_,_,z,_⟩:=this;rw[e]at z;cases z
  |set S n=>obtain⟨o,_,_,_,z,_⟩:=this;rw[e]at z;cases z
  |ins C dx fs=>obtain⟨_,_,_,z,_⟩:=this;rw[e]at z;cases z
  |own y=>obtain⟨_,z⟩:=this;rw[e]at z;cases z
  |xd fs=>obtain⟨_,⟨_,_,_,z,_⟩,_⟩:=this;rw[e]at z;cases z
  |rng lo hi=>obtain⟨_,_,_,z⟩:=this;rw[e]at z;cases z
  |frz ob u=>obtain⟨z,_⟩:=this;rw[e]at z;cases z
  |tbl ps=>have z:h.get? a=some _:=this;rw[e]at z;cases z
  |met f y=>have z:h.get? a=some _:=this;rw[e]at z;cases z
  |ext φ=>obtain⟨_,⟨_,z⟩,_⟩:=this;rw[e]at z;cases z
def HOk.untracked {P:Program} {w:World} {H:Hp} {h:Heap} {a:Addr} (x:HOk P w H h) (e:h.get? a=none):H a=none:=by
 cases q:H a with
 |none=>rfl
 |some o=>
  obtain⟨ob,z⟩:=x.there q;rw[e]at z;cases z
def XT (P:Program) (w:World):qw:=fun outer H s E e s'=> ∃(a T:Addr) (cls a0:Value) (dd:Option Addr) (H':Hp),e=.ref a/\s'.os=s.os/\AllBare s'.gens/\Un (zX outer) [] H H' s.heap s'.heap/\HOk P w H' s'.heap/\
 s.heap.get? a=none/\s.heap.get? T=none/\H' a=none/\H' T=none/\Trc s'.heap a T cls a0 dd/\E cls dd H'
section
variable {P:Program} {w:World} {K:FG} {mg:Str->Option Value} {base:Heap} {N:List Str} {qual:Str} {scope:Scope} {f:Addr} {cd:Value} {A:Around} {outer:List Env} {s0:Shared} {H0:Hp} {E:XK}
def Inv.left {X:Cx} {pins:AL} {σ:St} {H:Hp} {s:Shared} {hid:List Addr} {a T':Addr} {cls a0:Value} {dd:Option Addr} {h':Heap} (hst:X.stack=X.env::X.outer) (hex:X.ex=[]) (I:Inv X pins σ H s) (y:Left X.stack hid a T' cls a0 dd s.heap h')
  (hh:∀b∈hid,(b∈zX X.stack\/X.s₀.heap.get? b=none)/\H b=none):
  Un X.fs [] X.H₀ H X.s₀.heap h'/\HOk X.prog X.w H h'/\X.s₀.heap.get? T'=none/\H T'=none:=by
 have hfo:∀b o,X.s₀.heap.get? b=some o->b∉X.fs->b∉zX X.stack:=fun b o e n hb=>by
  rcases Ae.mp (I.stkSub b hb) with z|z
  .have h1:=Af e
   have h2:=I.ok.above;rw[z]at h1;exact absurd (Ay h1 h2) (Bn _)
  .exact n z
 have nh:∀b o,X.s₀.heap.get? b=some o->b∉X.fs->b∉hid:=fun b o e n hb=>by
  rcases (hh b hb).1 with z|z
  .exact hfo b o e n z
  .rw[e]at z;cases z
 have fsub:∀b∈X.fs,b∈zX X.stack:=fun b hb=>by
  rw[hst];obtain⟨v,hv,e⟩:=Ea.mp hb;exact Ea.mpr ⟨v,.tail _ hv,e⟩
 have U:=I.base;rw[hex]at U;have no:∀b:Addr,b∉([]:List Addr):=fun b z=>nomatch z
 have anyway:∀b o,s.heap.get? b=some o->(b∉hid\/b∈zX X.stack)->∃o',h'.get? b=some o':=fun b o e d=>by
  rcases d with d|d
  .exact⟨o,y.keep b o e d⟩
  .obtain⟨sl,q⟩:=y.slot b o e d
   exact⟨_,q⟩
 refine⟨⟨fun b o e n hb _=>y.keep b o (U.keep b o e n hb (no b)) (nh b o e hb),fun b o e n hb _=>?_,U.free,fun b o e _=>?_,U.tups,U.frzs,U.tbls⟩,fun b o e=>?_,?_,?_⟩
 .obtain⟨sl,q⟩:=U.slot b o e n hb (no b)
  obtain⟨sl',q'⟩:=y.slot b _ q (fsub b hb);exact⟨sl',q'⟩
 .obtain⟨o',q⟩:=U.there b o e (no b)
  refine anyway b o' q ?_
  by_cases z:b∈X.fs
  .exact .inr (fsub b z)
  .exact .inl (nh b o e z)
 .refine (I.hok b o e).stay (fun c u hc ec=>y.keep c u ec fun hm=>?_) (fun _ z=>z) fun _ _ z=>z
  have:=(hh c hm).2
  rcases hc with z|z
  .rw[z,e]at this;cases this
  .rw[z]at this;cases this
 .cases q:X.s₀.heap.get? T' with
  |none=>rfl
  |some o=>
   exfalso
   obtain⟨o',q'⟩:=U.there T' o q (no T')
   by_cases z:T'∈X.fs
   .exact y.nfr (fsub _ z)
   .exact y.new T' o' q' (nh T' o q z) rfl
 .cases q:H T' with
  |none=>rfl
  |some o=>
   exfalso
   obtain⟨ob,hob⟩:=I.hok.there q
   refine y.new T' ob hob (fun hm=>?_) rfl
   have:=(hh T' hm).2;rw[q]at this;cases this
def HE:qC (XT P w) (yk (XT P w) P w K mg base N qual scope f cd A outer s0 H0 E) E:=by
 intro pins σ H s e s' I hx;obtain⟨a,T,cls,a0,dd,H',rfl,os,bare,un,hok,na,nT,ha,hT,tr,q⟩:=hx;have I':Inv (yk (XT P w) P w K mg base N qual scope f cd A outer s0 H0 E) pins σ H' s':=I.call' os un hok bare fun b z=>nomatch z
 have old:∀b,s.heap.get? b=none->s0.heap.get? b=none:=fun b e=>by
  cases z:s0.heap.get? b with
  |none=>rfl
  |some o=>
   obtain⟨o',q'⟩:=I.base.there b o z fun y=>nomatch y
   rw[e]at q';cases q'
 refine Pk (base:=base) (L:=s0.heap.objs.size) I'.ok.frames I'.stack rfl tr fun h' T' y=>?_
 obtain⟨u,hk,n1,n2⟩:=I'.left rfl rfl y fun b hb=>by
  rcases Ae.mp hb with z|hb
  .rw[z];exact⟨.inr (old a na),ha⟩
  .rcases Ae.mp hb with z|hb
   .rw[z];exact⟨.inr (old T nT),hT⟩
   .exact⟨.inl hb,I'.stkFree b hb⟩
 exact⟨a,T',cls,a0,dd,H',rfl,I'.os,I'.bare,u,hk,old a na,n1,ha,n2,y.trc,q⟩
def HF (X:Cx) (E:XK):Prop:=∀(pins:AL) (σ:St) (H:Hp) (s:Shared) (a C:Addr) (vs:List Value) (h':Heap),Inv X pins σ H s->Heap.MadeExcOf s.heap h' a (.ref C) vs->E (.ref C) none H->X.xe (.ref a) {s with heap:=h'}
def HG:HF (yk (XT P w) P w K mg base N qual scope f cd A outer s0 H0 E) E:=by
 intro pins σ H s a C vs h' I mk q;have I':Inv (yk (XT P w) P w K mg base N qual scope f cd A outer s0 H0 E) pins σ H {s with heap:=h'}:=I.kept (t':=s.toks) mk.keeps
 have na:H a=none:=I.hok.untracked mk.new;have old:s0.heap.get? a=none:=by
  cases z:s0.heap.get? a with
  |none=>rfl
  |some o=>
   obtain⟨o',q'⟩:=I.base.there a o z fun y=>nomatch y
   rw[mk.new]at q';cases q'
 obtain⟨t,ht,_,_⟩:=mk.there
 refine Ky (base:=base) (L:=s0.heap.objs.size) (a0:= .ref t) I'.ok.frames I'.stack rfl ht rfl rfl rfl fun h'' T' y=>?_
 obtain⟨u,hk,n1,n2⟩:=I'.left rfl rfl y fun b hb=>by
  rcases Ae.mp hb with z|hb
  .rw[z];exact⟨.inr old,na⟩
  .exact⟨.inl hb,I'.stkFree b hb⟩
 exact⟨a,T',.ref C,_,none,H,rfl,I'.os,I'.bare,u,hk,old,n1,na,n2,y.trc,q⟩
end
abbrev qO:List Value:=[.type "ValueError",.type "Exception",.type "BaseException",.type "object"]
structure XCl (K:FG) (mg:Str->Option Value) (x:Str) (C:Addr):Prop where
 ex:PySem.W.excIn K C qO "ValueError.__new__" =true
 gl:mg x=some (.ref C)
def XCl.own {K:FG} {mg:Str->Option Value} {x:Str} {C:Addr} {h:Heap} (c:XCl K mg x C) (X:K.In h):OwnCls x C qO "ValueError.__new__" mg h:=by
 have q:=c.ex;unfold PySem.W.excIn at q
 split at q
 case h_2=>cases q
 case h_1 dd cd sl ho=>
  split at q
  case h_2=>cases q
  case h_1 C' bm y0 y1 y2 y3 n y5 hm hs=>
   simp only[Ar,Au,Bool.not_eq_true']at q;obtain⟨⟨⟨⟨⟨e1,e2⟩,hdel⟩,ht⟩,hok⟩,hni⟩:=q;subst e1;subst e2;cases cd with
   |mk nm bs mro ns qn hd sn sub ab col del=>
   simp only at hm hdel hok hni;cases hm;cases hdel;have e:sl= #[y0,y1,y2,y3,some (.builtin "ValueError.__new__"),y5]:=Array.ext' hs;cases e;exact⟨c.gl,bm,ns,nm,qn,bs,hd,sn,sub,ab,col,dd,y0,y1,y2,y3,y5,h.nsMap ns,X _ _ ho,.of_isNs (PySem.W.isNs_of_in X hok),PySem.W.nsMap_none_of_in X hok hni,PySem.W.tail_of_in X ht⟩
section
variable {X:Cx} {x:Str} {C:Addr} {np cpos pos:Pos} {e:Expr} {es:List Expr} {ta:TA} {E:XK}
def Pl (C:Addr) (E:XK) (ta:TA):TS:=fun _ σ H=>ta σ H fun vs H1=>vs.length<=1000/\E (.ref C) none H1
def Pm (c:XCl X.K X.mg x C) (hc:X.calm=true) (hg:Gl X x) (hr:HF X E) (ha:PA X (e::es) ta) (hs:SE X e es:=by rfl) (hp:(backTo cpos (starEach es X.env)).any (·.1)=false:=by rfl)
  (hd:(x==("__debug__" :Str))=false:=by decide):PS X (.Raise (some (.Call (.Name x np) (e::es) [] cpos)) none pos) (Pl C E ta):=by
 intro pins s σ H D I h;obtain⟨tl,N,nm,q,bs,hdct,sn,sub,ab,col,dd,k0,k1,k2,k3,k5,mN,hC,hN,hni,T⟩:=(c.own I.ok.mod.kin).obj
 refine wpAny_Raise_call_subT E7 (bm:=tl) (mN:=mN) (C:=C) (N:=N) (k5:=k5) (k3:=k3) (k2:=k2) (k1:=k1) (k0:=k0) (dd:=dd) (col:=col) (ab:=ab) (sub:=sub) (sn:=sn) (hdct:=hdct) (bs:=bs) (q:=q) (nm:=nm) (T.hasType (by decide)) (I.ok.hd hc) (by rw[hs];show (false || _)=false;rw[Ef];exact hp) hni (AK I hg c.gl ⟨rfl,?_⟩ hd)
 rw[hs]
 refine Fq (thn (by have:=ha cpos pins s σ H _ I h;rw[hs]at this;exact this) fun us s1 z=>?_)
 obtain⟨vs,H1,I1,rv,hl,q1⟩:=z;exact⟨rfl,by show us.length<=sizeLine;rw[<-rv.length];exact C8 (Kn hl),I1.bk _ _ hC,hN.keeps I1.bk,T.keeps I1.bk,fun h' a mk=>hr pins σ H1 s1 a C us h' I1 mk q1⟩
end
def Fun.okX {P:Program} {w:World} {K:FG} {mg:Str->Option Value} {base:Heap} {x qual:Str} {st:Stmt} {f:Addr} {fd:FuncData} {N ps:List Str} {k:Nat} {sp:Sp} (F:Fun K x qual st f fd) (S:FnScope N ps (zC st)) (len:∀vs H Q E,sp vs H Q E->vs.length=ps.length)
  (hbody:∀(cdv:Value) (A:Around) (outer:List Env) (s:Shared) (H:Hp) (vs:List V) (Q:VK) (E:XK),Room k (A.deeper (envOfC qual (zC st) s.heap.objs.size f cdv))->sp vs H Q E->
   ∃t,yj (yk (XT P w) P w K mg base N qual (zC st) f cdv A outer s H E) (BN st) t/\t {nx:=fun _ H'=>Q .non H',rt:=Q} (start N vs) H):FnOk P w K mg base (XT P w) (k+1) f fd ps sp:=by
 obtain⟨oc,od,kV,doc,pm,an,cdv,ct,osl,rfl,lk,hcd⟩:=F.ex;exact Ov lk hcd S len fun A outer s H vs Q E hr hsp=>hbody cdv A outer s H vs Q E hr hsp
def Pn {fs hid:List Addr} {H H':Hp} {h h1 h2:Heap} (u:Un fs [] H H' h h1) (keep:∀b o,h1.get? b=some o->b∉hid->h2.get? b=some o)
  (slot:∀b o,h1.get? b=some o->b∈fs->∃sl,h2.get? b=some {o with slots:=sl}) (hh:∀b∈hid,b∈fs\/h.get? b=none):Un fs [] H H' h h2:=by
 have no:∀b:Addr,b∉([]:List Addr):=fun b z=>nomatch z
 have nh:∀b o,h.get? b=some o->b∉fs->b∉hid:=fun b o e n hb=>by
  rcases hh b hb with z|z
  .exact n z
  .rw[e]at z;cases z
 refine⟨fun b o e n hb _=>keep b o (u.keep b o e n hb (no b)) (nh b o e hb),fun b o e n hb _=>?_,u.free,fun b o e _=>?_,u.tups,u.frzs,u.tbls⟩
 .obtain⟨sl,q⟩:=u.slot b o e n hb (no b)
  obtain⟨sl',q'⟩:=slot b _ q hb;exact⟨sl',q'⟩
 .obtain⟨o',q⟩:=u.there b o e (no b)
  by_cases z:b∈fs
  .obtain⟨sl,q'⟩:=slot b o' q z
   exact⟨_,q'⟩
  .exact⟨o',keep b o' q (nh b o e z)⟩
def Po {P:Program} {w:World} {H:Hp} {h1 h2:Heap} {hid:List Addr} (k:HOk P w H h1) (keep:∀b o,h1.get? b=some o->b∉hid->h2.get? b=some o) (hh:∀b∈hid,H b=none):HOk P w H h2:=fun b o e=>by
 refine (k b o e).stay (fun c u hc ec=>keep c u ec fun hm=>?_) (fun _ z=>z) fun _ _ z=>z
 have:=hh c hm
 rcases hc with z|z
 .rw[z,e]at this;cases this
 .rw[z]at this;cases this
section
variable {X:Cx} {pins:AL} {σ:St} {H:Hp} {s:Shared}
abbrev Cx.pinned (X:Cx) (pn:AL):Cx:={X with pn:=pn}
abbrev Cx.suite (X:Cx) (e:Value):Cx:={X with A:=X.A.mark (some e),calm:=false}
def Inv.inPn (I:Inv X pins σ H s):Inv (X.pinned (X.pn++pins)) [] σ H s:=
 ⟨⟨I.ok.mod,I.ok.kind,I.ok.glob,I.ok.blt,I.ok.above,I.ok.inj,I.ok.has,I.ok.cab,I.ok.hd,I.ok.frames,I.ok.stk,I.ok.exf,I.ok.bs,I.ok.bsz,I.ok.noex,I.ok.exfs,I.ok.funs,I.ok.frf⟩,I.os,I.bare,I.base,I.loc,I.cell,I.free,I.freeC,fun p hp=>I.pin p (by rw[Bt]at hp;exact hp),I.hok,I.len⟩
def Inv.unpin {ps:AL} (I:Inv (X.pinned (X.pn++pins)) ps σ H s):Inv X pins σ H s:=
 ⟨⟨I.ok.mod,I.ok.kind,I.ok.glob,I.ok.blt,I.ok.above,I.ok.inj,I.ok.has,I.ok.cab,I.ok.hd,I.ok.frames,I.ok.stk,I.ok.exf,I.ok.bs,I.ok.bsz,I.ok.noex,I.ok.exfs,I.ok.funs,I.ok.frf⟩,I.os,I.bare,I.base,I.loc,I.cell,I.free,I.freeC,fun p hp=>I.pin p (Cu _ hp),I.hok,I.len⟩
theorem Inv.suite (I:Inv X pins σ H s) (e:Value):Inv (X.suite e) pins σ H s:=
 ⟨⟨I.ok.mod,I.ok.kind,I.ok.glob,I.ok.blt,I.ok.above,I.ok.inj,I.ok.has,I.ok.cab,(fun z=>Bool.noConfusion z),I.ok.frames,I.ok.stk,I.ok.exf,I.ok.bs,I.ok.bsz,I.ok.noex,I.ok.exfs,I.ok.funs,I.ok.frf⟩,I.os,I.bare,I.base,I.loc,I.cell,I.free,I.freeC,I.pin,I.hok,I.len⟩
def Inv.unsuite {e:Value} (hc:X.calm=true->X.A.handled=none) (I:Inv (X.suite e) pins σ H s):Inv X pins σ H s:=
 ⟨⟨I.ok.mod,I.ok.kind,I.ok.glob,I.ok.blt,I.ok.above,I.ok.inj,I.ok.has,I.ok.cab,hc,I.ok.frames,I.ok.stk,I.ok.exf,I.ok.bs,I.ok.bsz,I.ok.noex,I.ok.exfs,I.ok.funs,I.ok.frf⟩,I.os,I.bare,I.base,I.loc,I.cell,I.free,I.freeC,I.pin,I.hok,I.len⟩
def SP.conv {Y:Cx} {ps:AL} {D:Ends} {f:Flow} {s':Shared} (k:∀σ' H',Inv Y ps σ' H' s'->Inv X pins σ' H' s') (h:SP Y ps D f s'):SP X pins D f s':=by
 cases f with
 |next=>obtain⟨σ',H',I,q⟩:=h;exact⟨σ',H',k _ _ I,q⟩
 |brk=>obtain⟨σ',H',I,q⟩:=h;exact⟨σ',H',k _ _ I,q⟩
 |cont=>obtain⟨σ',H',I,q⟩:=h;exact⟨σ',H',k _ _ I,q⟩
 |ret u=>obtain⟨v,σ',H',I,r,q⟩:=h;exact⟨v,σ',H',k _ _ I,r,q⟩
end
def Pp (a:Addr) (cls:Value) (dd:Option Addr):Heap->Prop:=fun h=> ∃o vs,h.get? a=some o/\o.cls=cls/\o.data=.fields vs/\o.dict=dd
abbrev excO (a:Addr) (cls:Value) (dd:Option Addr):HO:= .ext (Pp a cls dd)
section
variable {X:Cx} {pins:AL} {σ:St} {H:Hp} {s:Shared}
def Inv.track {a:Addr} {o:HO} (I:Inv X pins σ H s) (hn:H a=none) (h0:X.s₀.heap.get? a=none) (hl:a≠X.env.locals) (hc:∀x c,X.env.cells.lookup x=some c->c≠a) (hp:∀p∈X.pn++pins,p.1≠a) (new:ObjOk X.prog X.w (zi H a o) s.heap a o):
  Inv X pins σ (zi H a o) s:=by
 refine⟨I.ok,I.os,I.bare,⟨I.base.keep,I.base.slot,fun b u e n hx=>?_,I.base.there,fun b xs e=>?_,fun b u v e=>?_,fun b ps e=>?_⟩,I.loc,I.cell,?_,fun y c e=>?_,fun p q=>?_,fun b u e=>?_,I.len⟩
 .rw[zy (fun z=>by rw[z,h0]at e;cases e)];exact I.base.free b u e n hx
 .rw[zy (yw (I.base.tups b xs e) hn)];exact I.base.tups b xs e
 .rw[zy (yw (I.base.frzs b u v e) hn)];exact I.base.frzs b u v e
 .obtain⟨more,q⟩:=I.base.tbls b ps e
  exact⟨more,by rw[zy (yw q hn)];exact q⟩
 .rw[zy hl.symm];exact I.free
 .rw[zy (hc y c e)];exact I.freeC y c e
 .obtain⟨e,n,r⟩:=I.pin p q
  exact⟨e,by rw[zy (hp p q)];exact n,r⟩
 .by_cases hb:b=a
  .subst hb;rw[z6]at e;cases e;exact new
  .rw[zy hb]at e
   exact (I.hok b u e).stay (fun c v _ q=>q) (fun c q=>by rw[zy (yw q hn)];exact q) fun c xs q=>by rw[zy (yw q hn)];exact q
def Gy {M:Model} {A:Around} {E:VP} {i:Nat} {n:Str} {pos:Pos} {Q:Unit->Shared->Prop} (I:Inv X pins σ H s) (hN:X.N.Nodup) (hi:X.N[i]? =some n) (hx:X.env.kindOf n=some .local)
  (h:∀s',Inv X pins (σ.set i none) H s'->Q () s'):wpAny M A (do bindName X.env n .none;unbindBehindTheSuite X.env n pos) Q E s:=by
 obtain⟨m,hn,hl⟩:=id I.loc;have hcls:(X.env.scope.kind== .class || (X.env.scope.kind== .module && X.env.locals !=X.env.globals))=false:=by rw[I.ok.kind];rfl
 refine wpAny_nameGoes_keeps hx hn hcls fun h' v hn' hs=>h _ ?_
 have lt:∀b o,X.s₀.heap.get? b=some o->b≠X.env.locals:=fun b o e=>Aq (Ay (Af e) I.ok.above)
 refine⟨I.ok,I.os,I.bare,⟨fun b o e n hb hx=>(hs.2 b (lt b o e)).trans (I.base.keep b o e n hb hx),fun b o e n hb hx=>?_,I.base.free,fun b o e hx=>?_,I.base.tups,I.base.frzs,I.base.tbls⟩,⟨_,hn',fun j y w e1 e2 e3=>?_⟩,fun y c e=>?_,I.free,I.freeC,fun p hp=>?_,fun b u e=>?_,by rw[Bf];exact I.len⟩
 .obtain⟨sl,e1⟩:=I.base.slot b o e n hb hx
  exact⟨sl,(hs.2 b (lt b o e)).trans e1⟩
 .obtain⟨o',e1⟩:=I.base.there b o e hx
  exact⟨o',(hs.2 b (lt b o e)).trans e1⟩
 .by_cases hj:j=i
  .subst hj
   by_cases hlt:j<σ.length
   .rw[Es hlt]at e2;cases e2
   .rw[Eg (by rw[Bf];lia)]at e2;cases e2
  .rw[D8 (A5 hj)]at e2
   obtain⟨u,r,q⟩:=hl j y w e1 e2 e3
   refine⟨u,r,?_⟩
   have ny:y≠n:=fun z=>hj (Hq hN e1 (z ▸ hi))
   rcases q with ⟨k1,k2⟩|⟨k1,c,k2,k3⟩
   .exact .inl ⟨k1,by simp[ny,k2]⟩
   .exact .inr ⟨k1,c,k2,k3.sameBut hs (I.cne y c k2)⟩
 .obtain⟨w',z⟩:=I.cell y c e
  exact⟨w',z.sameBut hs (I.cne y c e)⟩
 .obtain⟨e,n,ne,r⟩:=I.pin p hp
  exact⟨(hs.2 p.1 ne).trans e,n,ne,r⟩
 .refine (I.hok b u e).stay (fun c w' hc q=>(hs.2 c ?_).trans q) (fun _ q=>q) fun _ _ q=>q
  intro z
  rcases hc with y|y
  .rw[<-y,z,I.free]at e;cases e
  .rw[z,I.free]at y;cases y
end
def HH (CX:qw) (X:Cx) (σ₀:St) (E:XK):Prop:=∀(pins:AL) (H:Hp) (s:Shared) (e:Value) (s':Shared),Inv X pins σ₀ H s->CX X.stack H s E e s'->X.xe e s'
section
variable {X:Cx} {CX:qw} {k:Nat} {f C:Addr} {fd:FuncData} {ps:List Str} {sp:Sp} {dvs:List V} {ds:List Value} {E:XK} {x m:Str} {p pos apos:Pos} {e o:Expr} {es:List Expr} {ta:TE} {t:TA} {σ₀:St}
def Pq {pins:AL} {H:Hp} {s:Shared} {Q:VK} {us:List Value} {vs:List V} (F:FnOk X.prog X.w X.K X.mg X.base CX k f fd ps sp) (hr:Room k X.A) (hb:Binds X.K fd ps ds) (hd:Vals dvs ds) (hx:HH CX X σ₀ E)
  (I:Inv X pins σ₀ H s) (r:Vals vs us) (h:sp (vs++dvs) H Q E):wpAny (model X.prog X.w) X.A (call (.ref f) us) (EP X pins σ₀ Q) X.xe s:=by
 have r2:Vals (vs++dvs) (us++ds):=r.append hd;have hl:(us++ds).length=ps.length:=by rw[<-r2.length];exact F.len _ _ _ _ h
 refine Dc (Cw (F.run X.A X.stack s H ⟨us,[]⟩ (us++ds) (vs++dvs) Q E hr I.env0 (hb s us I.kIn hl) r2 h) fun r s' hq=>?_)
 match r,hq with
 |.error e,hq=>exact hx pins H s e s' I hq
 |.ok (.ret u),hq=>exact I.after hq
 |.ok .next,hq=>exact False.elim hq
 |.ok .brk,hq=>exact False.elim hq
 |.ok .cont,hq=>exact False.elim hq
def Pr (F:FnOk X.prog X.w X.K X.mg X.base CX k f fd ps sp) (hr:Room k X.A) (hg:Gl X x) (hm:X.mg x=some (.ref f)) (hk:PySem.W.keepIn X.K (.ref f)=true) (hb:Binds X.K fd ps ds) (hd:Vals dvs ds) (hx:HH CX X σ₀ E)
  (ha:PA X (e::es) t) (hdb:(x==("__debug__" :Str))=false:=by decide) (he:SE X e es:=by rfl) (hpl:BA X pos es:=by rfl):
  PE X (.Call (.Name x p) (e::es) [] pos) (fun σ H Q=>σ=σ₀/\EK sp dvs E t σ H Q):=by
 intro pins s σ H Q I ⟨hσ,h⟩;subst hσ
 refine Cy (AK I hg hm ?_ hdb)
 refine Ec (h₀:=X.base) I.ok.mod.kin hk (thn (ha pos pins s σ H _ I h) fun us s1 ⟨vs,H1,I1,r,q⟩=>⟨I1.kIn,?_⟩) he hpl
 exact Pq F hr hb hd hx I1 r q
end
def EN (X:Cx) (pn:AL) (σ₀:St) (E:XK):VP:=fun e s1=> ∃pins H s,Inv (X.pinned pn) pins σ₀ H s/\XT X.prog X.w X.stack H s E e s1
def Pt {X:Cx} {pn:AL} {σ₀:St} {E:XK}:HH (XT X.prog X.w) ((X.pinned pn).wish (EN X pn σ₀ E)) σ₀ E:=fun pins H s e s' I h=>⟨pins,H,s,I.unwish,h⟩
structure Caught (X:Cx) (pins:AL) (σ:St) (H:Hp) (a:Addr) (cls:Value) (dd:Option Addr) (s:Shared):Prop where
 inv:Inv X pins σ H s
 fly:∃B a0,qy B (X.env::X.outer) a cls a0 dd .none s.heap/\∀h',qy B (X.env::X.outer) a cls a0 dd .none h'->s.heap.UpToSlots h'->Inv X pins σ H {s with heap:=h'}
 free:H a=none
 old:X.s₀.heap.get? a=none
 loc:a≠X.env.locals
 cel:∀x c,X.env.cells.lookup x=some c->c≠a
 pin:∀p∈X.pn++pins,p.1≠a
def qi (X:Cx) (hs:List ExceptHandler) (th:Value->Option Addr->TS):Prop:=∀(pins:AL) (σ:St) (H:Hp) (s:Shared) (D:Ends) (a:Addr) (cls:Value) (dd:Option Addr),Caught X pins σ H a cls dd s->th cls dd D σ H->wpAny (model X.prog X.w) X.A (handleBy (.ref a) X.env hs) (SP X pins D) X.xe s
section
variable {X:Cx} {x:Str} {B:Addr} {np hp pos:Pos} {b:List Stmt} {b₀:Stmt} {suite:List Stmt} {hs:List ExceptHandler} {th:TS} {tr:Value->Option Addr->TS}
abbrev xNil:VP:=fun _ _=>False
def Kz (K:FG) (B:Addr) (th:Value->Option Addr->TS) (tr:Value->Option Addr->TS):Value->Option Addr->TS:=fun cls dd D σ H=>(PySem.W.exmOne K cls (.ref B)=some true/\th cls dd D σ H)\/(PySem.W.exmOne K cls (.ref B)=some false/\tr cls dd D σ H)
def Caught.looks {pins:AL} {σ:St} {H:Hp} {a:Addr} {cls:Value} {dd:Option Addr} {s:Shared} {bb:Bool} (c:Caught X pins σ H a cls dd s) (hx:PySem.W.exmOne X.K cls (.ref B)=some bb):PySem.W.Looks (model X.prog X.w) s.heap (excMatches (.ref a) (.ref B)) bb:=by
 obtain⟨Bs,a0,fly,_⟩:=c.fly;obtain⟨_,_,_,ob,_,_,_,_,hob,⟨hobc,_⟩,_⟩:=fly
 refine PySem.W.exm_one c.inv.kIn ?_ hx
 have:=(PySem.W.Looks.ld (M:=model X.prog X.w) (part:=none) hob);rw[<-hobc];exact this.andThen .now
def Pu (hg:Gl X x) (hm:X.mg x=some (.ref B)) (hs0:∀e,yj ((X.suite e).wish xNil) (b₀::suite) th) (hr:qi X hs tr) (hd:(x==("__debug__" :Str))=false:=by decide):
  qi X (.ExceptHandler (some (.Name x np)) none (b₀::suite) hp::hs) (Kz X.K B (fun _ _=>th) tr):=by
 intro pins σ H s D a cls dd c h
 refine wpAny_handleBy_cons (codeAny_handlers_test (AK (X:=X.suite (.ref a)) (c.inv.suite (.ref a)) hg hm ?_ hd)) (by intro z;cases z)
 rcases h with ⟨hx,h⟩|⟨hx,h⟩
 .refine (c.looks hx).here (codeAny_handlers_suite ?_)
  obtain⟨Bs,a0,fly,back⟩:=c.fly
  refine EM none fly fun h6 fly6 sm6=>?_
  have I6:=back h6 fly6 sm6
  refine Bj (hs0 (.ref a) pins _ σ H D ((I6.suite (.ref a)).wish xNil) h) (fun f s7 q7=>?_) fun _ _ z=>z.elim
  exact SP.conv (fun σ' H' K=>Inv.unsuite c.inv.ok.hd K.unwish) q7
 .exact (c.looks hx).here (hr pins σ H s D a cls dd c h)
def tAs (i:Nat) (th:TS):Value->Option Addr->TS:=fun cls dd D σ H=> ∀a,H a=none->th {nx:=fun σ' H'=>D.nx (σ'.set i none) H',rt:=D.rt,bk:=fun σ' H'=>D.bk (σ'.set i none) H',ct:=fun σ' H'=>D.ct (σ'.set i none) H'} (σ.set i (some (.ref a))) (zi H a (excO a cls dd))
def Pv {i:Nat} {n:Str} (hN:X.N.Nodup) (hi:X.N[i]? =some n) (hlo:qH X.env.scope n) (hkd:X.env.kindOf n=some .local) (hg:Gl X x) (hm:X.mg x=some (.ref B)) (hs0:∀e,yj ((X.suite e).wish xNil) (b₀::suite) th) (hr:qi X hs tr) (hd:(x==("__debug__" :Str))=false:=by decide)
  (hf:X.fn n=true\/X.env.scope.names.lookup n=some .local:=by first|exact .inl rfl|exact .inr rfl|assumption):
  qi X (.ExceptHandler (some (.Name x np)) (some n) (b₀::suite) hp::hs) (Kz X.K B (tAs i th) tr):=by
 intro pins σ H s D a cls dd c h
 refine wpAny_handleBy_cons (codeAny_handlers_test (AK (X:=X.suite (.ref a)) (c.inv.suite (.ref a)) hg hm ?_ hd)) (by intro z;cases z)
 rcases h with ⟨hx,h⟩|⟨hx,h⟩
 .refine (c.looks hx).here (codeAny_handlers_suite_as ?_)
  obtain⟨Bs,a0,fly,back⟩:=c.fly
  refine EM none fly fun h6 fly6 sm6=>?_
  have I6:=back h6 fly6 sm6;obtain⟨_,_,_,oe,vs,T,oT,ts,t1,t2,t3,_⟩:=id fly6;have I7:Inv X pins σ (zi H a (excO a cls dd)) {s with heap:=h6}:=I6.track c.free c.old c.loc c.cel c.pin ⟨⟨oe,vs,t1,t2.1,t3,t2.2.1⟩,⟨oe,t1⟩,fun h1 h2 ⟨o,vs,e,c,d⟩ k=>⟨o,vs,k o e,c,d⟩⟩
  refine EC (X:=X.suite (.ref a)) (I7.suite (.ref a)) hN hi hlo (v:= .ref a) rfl (fun s8 I8=>?_) hf
  refine Bj (hs0 (.ref a) pins _ _ _ _ (I8.wish xNil) (h a c.free)) (fun f s9 q9=>?_) fun _ _ z=>z.elim
  have I9:SP X pins _ f s9:=SP.conv (fun σ' H' K=>Inv.unsuite c.inv.ok.hd K.unwish) q9
  cases f with
  |next=>obtain⟨σ',H',J,q⟩:=I9;exact Gy J hN hi hkd fun s' J'=>⟨_,_,J',q⟩
  |brk=>obtain⟨σ',H',J,q⟩:=I9;exact Gy J hN hi hkd fun s' J'=>⟨_,_,J',q⟩
  |cont=>obtain⟨σ',H',J,q⟩:=I9;exact Gy J hN hi hkd fun s' J'=>⟨_,_,J',q⟩
  |ret u=>obtain⟨v,σ',H',J,r,q⟩:=I9;exact Gy J hN hi hkd fun s' J'=>⟨_,_,_,J',r,q⟩
 .exact (c.looks hx).here (hr pins σ H s D a cls dd c h)
def Pw:qi X [] (fun _ _ _ _ _=>False):=fun _ _ _ _ _ _ _ _ _ h=>h.elim
def Px {h₀:ExceptHandler} {tb:XK->TS} (hst:X.stack=X.env::X.outer) (hfm:X.env.frame=some X.env.locals) (hex:X.ex=[])
  (hb:∀pn σ₀ E,yj ((X.pinned pn).wish (EN X pn σ₀ E)) b (fun D σ H=>σ=σ₀/\tb E D σ H)) (hh:qi X (h₀::hs) tr):
  PS X (.Try b (h₀::hs) [] [] pos) (fun D σ H=>tb (fun cls dd H'=>tr cls dd D σ H') D σ H):=by
 intro pins s σ H D I h;have J:Inv ((X.pinned (X.pn++pins)).wish (EN X (X.pn++pins) σ fun cls dd H'=>tr cls dd D σ H')) [] σ H s:=I.inPn.wish _
 refine wpAny_Try_except (Bj (hb (X.pn++pins) σ _ [] s σ H D J ⟨rfl,h⟩) (fun f s1 q=>?_) fun e s1 q=>?_)
 .have q':SP X pins D f s1:=SP.conv (fun σ' H' K=>Inv.unpin K.unwish) q
  cases f with
  |next=>exact Ad q'
  |brk=>exact q'
  |cont=>exact q'
  |ret u=>exact q'
 .obtain⟨pins2,H2,s2,I2,a,T,cls,a0,dd,H',rfl,os,bare,un,hok,na,nT,ha,hT,tr',q⟩:=q
  have I3:Inv (X.pinned (X.pn++pins)) pins2 σ H' s1:=I2.call' os un hok bare fun b z=>nomatch z
  have hfr:s1.heap.FunFrames X.base X.stack:=I3.stack;obtain⟨oe,vs,oT,ts,t1,t2,t3,t4,t6,t7,t8,t9⟩:=tr';have fly:qy (PySem.W.hideAll s1.heap (a::T::zX X.stack)) X.stack a cls a0 dd .none s1.heap:=
   ⟨fun b o z=>Ep _ z,Dm _ (.head _),Ft hfr fun e he b hb=>.tail _ (.tail _ (HD e he b hb)),oe,vs,T,oT,ts,t1,t2,t3,t4,Dm _ (.tail _ (.head _)),t6,t7,t8,t9⟩
  have hfrm:X.A.frames=some (X.env::X.outer):=by rw[<-hst];exact I.ok.frames
  have back:∀h',qy (PySem.W.hideAll s1.heap (a::T::zX X.stack)) X.stack a cls a0 dd .none h'->s1.heap.UpToSlots h'->Inv X pins σ H' {s1 with heap:=h'}:=fun h' f u=>by
   have keep:∀b o,s1.heap.get? b=some o->b∉a::T::zX X.stack->h'.get? b=some o:=fun b o e n=>f.1 b o (PySem.W.hideAll_get _ e n)
   have slot:∀b o,s1.heap.get? b=some o->b∈zX X.stack->∃sl,h'.get? b=some {o with slots:=sl}:=fun b o e hb=>by
    refine u b o e fun ws hv=>?_
    obtain⟨_,o',ho',hn⟩:=hfr.mem hb;rw[e]at ho';cases ho';exact hn ws hv
   have un':Un (zX X.stack) [] H2 H' s2.heap h':=Pn un keep slot fun b hb=>by
    rcases Ae.mp hb with z|hb
    .rw[z];exact .inr na
    .rcases Ae.mp hb with z|hb
     .rw[z];exact .inr nT
     .exact .inl hb
   have hok':HOk X.prog X.w H' h':=Po hok keep fun b hb=>by
    rcases Ae.mp hb with z|hb
    .rw[z];exact ha
    .rcases Ae.mp hb with z|hb
     .rw[z];exact hT
     .exact I3.stkFree b hb
   have I4:Inv (X.pinned (X.pn++pins)) pins2 σ H' {s1 with heap:=h'}:=I2.call' os un' hok' bare fun b z=>nomatch z
   exact I4.unpin
  rw[hst]at fly
  refine Kv hfrm hfm fly fun h4 held4 sm4=>?_
  refine EM none held4 fun h5 fly5 sm5=>?_
  have sm45:=sm4.trans sm5;have I5:Inv X pins σ H' {s1 with heap:=h5}:=back h5 (by rw[hst];exact fly5) sm45
  have ne2:∀b o,s2.heap.get? b=some o->b≠a:=fun b o e z=>by rw[z,na]at e;cases e
  refine hh pins σ H' _ D a cls dd ⟨I5,⟨_,_,fly5,fun h' f u=>back h' (by rw[hst];exact f) (sm45.trans u)⟩,ha,?_,?_,?_,?_⟩ q
  .cases z:X.s₀.heap.get? a with
   |none=>rfl
   |some o=>
    have U:=I2.base;obtain⟨o',q'⟩:=U.there a o z fun y=>by rw[show (X.pinned (X.pn++pins)).ex=X.ex from rfl,hex]at y;cases y
    rw[na]at q';cases q'
  .intro z
   obtain⟨m,⟨o,es,ep,e,_⟩,_⟩:=I2.loc;exact ne2 _ o e z.symm
  .intro y c e z
   obtain⟨w',hw⟩:=I2.cell y c e;obtain⟨o,e1,_⟩:=hw;exact ne2 _ o e1 z
  .intro p hp z
   have e:=(I2.pin p (Cu _ hp)).1;exact ne2 _ _ e z
end
structure ExK (K:FG) (C:Addr):Prop where
 it:(PySem.W.clsIn K C).isSome=true
 ga:PySem.W.findIn K (.ref C) "__getattribute__" =some (some (.builtin "BaseException.__getattribute__"))
 gn:PySem.W.findIn K (.ref C) "__getattr__" =some none
 gc:PySem.W.findIn K (.ref C) "__class__" =some (some (.builtin "object.__class__"))
 sb:PySem.W.subIn K (.ref C) (.type "BaseException")=some true
 so:PySem.W.subIn K (.ref C) (.type "object")=some true
def EO:List Value->Bool
 |.ref _::r=>EO r
 |l=>l==qO
structure ExN (K:FG) (C:Addr):Prop extends ExK K C where
 gm:PySem.W.findIn K (.ref C) "name" =some none
 hd:(PySem.W.clsIn K C).any (fun cd=>cd.hasDict && EO cd.mro)=true
 sa:PySem.W.findIn K (.ref C) "__setattr__" =some (some (.builtin "object.__setattr__"))
section
variable {K:FG} {prog:Program} {w:World} {A:Around} {E:VP} {h:Heap} {g:Array GenState} {d:Drawn} {t:Nat} {os:OsState} {a C D:Addr} {vs:Array Value} {sl:Array (Option Value)} {m:Str->Option Value} {v:Value}
def Py {tk:Tok} {Q:Fin->Shared->Prop} (z:ExN K C) (X:K.In h) (hx:h.get? a=some ⟨.ref C,some D,.fields vs,sl⟩) (hn:h.Ns D m) (hv:m "name" =some v) (hq:Q (.done (.ret v)) ⟨h,g,d,t,os⟩):
  wpAny (model prog w) A (Builtin.«object.__getattribute__» ⟨[.ref a,.str "name" tk],[]⟩) Q E ⟨h,g,d,t,os⟩:=by
 obtain⟨cd,hc,hd⟩:=PySem.W.any_some z.hd;rw[Ar]at hd;have hd1:=hd.1;have lc:=PySem.W.looks_clsIn (M:=model prog w) X hc
 repeat (any_goals (first|assumption|with_reducible refine B7 hx ?_|with_reducible refine (Dp X z.gm).at ?_|with_reducible refine lc.at ?_|(with_reducible refine wpAny_nsGet (s:=⟨h,g,d,t,os⟩) hn ?_;rw[hv])|wp_step))
def Pz {tk:Tok} {R:Result->Shared->Prop} (z:ExN K C) (X:K.In h) (hx:h.get? a=some ⟨.ref C,some D,.fields vs,sl⟩) (hn:h.Ns D m) (hv:m "name" =some v) (hq:R (.ok (.ret v)) ⟨h,g,d,t,os⟩):
  codeAny (model prog w) A (.call (.builtin "BaseException.__getattribute__") ⟨[.ref a,.str "name" tk],[]⟩) R ⟨h,g,d,t,os⟩:=by
 have hp:plainId "BaseException.__getattribute__" =true:=by decide+kernel
 have hk:builtinKind "BaseException.__getattribute__" =some .slot:=by decide+kernel
 have hs:splitId "BaseException.__getattribute__" =some ("BaseException","__getattribute__"):=by decide+kernel
 refine E8 hp F.entry_bexc_ga ?_
 have ha:=F.args_bexc_ga (.ref a) (.str "name" tk);have l:PySem.W.Looks (model prog w) h (typeOf (.ref a)) (.ref C):=(PySem.W.Looks.ld (M:=model prog w) (part:=none) hx).andThen .now;have li:PySem.W.Looks (model prog w) h (isInstance (.ref a) (.type "BaseException")) true:=l.andThen (PySem.W.looks_subIn X z.sb);exact PySem.W.check_slot (i:="BaseException.__getattribute__") (owner:="BaseException") (n:="__getattribute__") (self:= .ref a) (rest:=[.str "name" tk]) (kw:=[]) hk hs li ha (Py z X hx hn hv hq)
def P0 {expr:Bool} {Q:VP} (z:ExN K C) (X:K.In h) (hx:h.get? a=some ⟨.ref C,some D,.fields vs,sl⟩) (hn:h.Ns D m) (hv:m "name" =some v) (hh:handedOut v=pure v) (hq:Q v ⟨h,g,d,t+1,os⟩):
  wpAny (model prog w) A (getAttr (.ref a) "name" expr) Q E ⟨h,g,d,t,os⟩:=by
 have f3:bindSpecial (.builtin "BaseException.__getattribute__") (.ref a)=pure (.builtin "BaseException.__getattribute__",[.ref a]):=by kernel_rfl
 have hx0:(expr && onTheHeap (Value.builtin "BaseException.__getattribute__"))=false:=by cases expr<;>rfl
 have hx2:(Value.builtin "BaseException.__getattribute__" ==Value.builtin "object.__getattribute__")=false:=by decide+kernel
 have hx1:(onTheHeap (Value.ref C) && Value.builtin "BaseException.__getattribute__" ==Value.builtin "object.__getattribute__")=false:=by rw[hx2];rfl
 unfold getAttr
 repeat (any_goals (first|assumption|with_reducible refine B7 hx ?_|with_reducible refine (Dp X z.ga).at ?_|with_reducible refine (Dp X z.gn).at ?_|wp_step))
 refine Pz z X hx hn hv ?_
 repeat (any_goals (first|assumption|wp_step))
end
def P1 (self:Value):refuseLoop self "__setattr__" qO=pure ():=by kernel_rfl
theorem K0 (self:Value):∀{l:List Value},EO l=true->refuseLoop self "__setattr__" l=pure ()
 | [],e=>by simp[EO]at e
 |x::r,e=>by
  cases x with
  |ref c=>rw[refuseLoop_ref];exact K0 self (l:=r) e
  |_=>rw[show (_::r:List Value)=qO from Au.mp e];exact P1 self
section
variable {K:FG} {prog:Program} {w:World} {A:Around} {E:VP} {h:Heap} {g:Array GenState} {d:Drawn} {t:Nat} {os:OsState} {a C D:Addr} {vs:Array Value} {sl:Array (Option Value)} {m:Str->Option Value} {v:Value}
def P2 {tk:Tok} {Q:Fin->Shared->Prop} (z:ExN K C) (X:K.In h) (hx:h.get? a=some ⟨.ref C,none,.fields vs,sl⟩)
  (hq:∀h' tk',h'.get? a=some ⟨.ref C,some h.objs.size,.fields vs,sl⟩->h'.Ns1 h.objs.size (fun y=>if y="name" then some v else none)->(∀b o,b≠a->h.get? b=some o->h'.get? b=some o)->Q (.done (.ret .none)) ⟨h',g,d,tk',os⟩):
  wpAny (model prog w) A (Builtin.«object.__setattr__» ⟨[.ref a,.str "name" tk,v],[]⟩) Q E ⟨h,g,d,t,os⟩:=by
 obtain⟨cd,hc,hd⟩:=PySem.W.any_some z.hd;rw[Ar]at hd;have hd1:=hd.1;have hpass:=K0 (.ref a) hd.2;have lc:=PySem.W.looks_clsIn (M:=model prog w) X hc;have lm:PySem.W.Looks (model prog w) h (mroOf (.ref C)) cd.mro:=lc.andThen .now;have hx1:(h.push {cls:= .type "dict",data:= .dict #[]}).get? a=some ⟨.ref C,none,.fields vs,sl⟩:=Ao _ hx;have hxs:a≠h.objs.size:=Aq (Af hx);have hgd:((h.push {cls:= .type "dict",data:= .dict #[]}).update a fun o=>{cls:=o.cls,dict:=some h.objs.size,data:=o.data,slots:=o.slots}).get? h.objs.size=some {cls:= .type "dict",data:= .dict #[]}:=(Heap.get?_update_ne _ _ _ _ hxs.symm).trans (Heap.get?_push_at rfl rfl)
 have hnd:((h.push {cls:= .type "dict",data:= .dict #[]}).update a fun o=>{cls:=o.cls,dict:=some h.objs.size,data:=o.data,slots:=o.slots}).Ns h.objs.size (fun _=>none):=⟨_,#[],_,hgd,rfl,fun e he=>absurd he (by simp),fun _=>rfl⟩
 have hxa:((h.push {cls:= .type "dict",data:= .dict #[]}).update a fun o=>{cls:=o.cls,dict:=some h.objs.size,data:=o.data,slots:=o.slots}).get? a=some ⟨.ref C,some h.objs.size,.fields vs,sl⟩:=C1 _ hx1 rfl
 unfold Builtin.«object.__setattr__»
 repeat (first|rw[refuse_eq] | (rw[hpass])|with_reducible refine B7 hx ?_|with_reducible refine lm.at ?_|with_reducible refine (Dp X z.gm).at ?_|with_reducible refine lc.at ?_|with_reducible refine wpAny_nsSet1 (s:=⟨_,g,d,t,os⟩) (Heap.Ns1.of_empty hnd) fun h' hn' hs=>?_|wp_step)
 obtain⟨oD,esD,epD,hoD,hdD,hcD⟩:=hn'.count (Within.cons "name" v Within.nil);have hpl:oD.data.pastItsLine=none:=by rw[hdD];exact pastItsLine_dict (Bi hcD (by rw[Az,Dx,C9];lia))
 refine B7 hoD ?_
 rw[hpl]
 refine Ad (Ad ?_)
 exact hq h' _ ((hs.2 a hxs).trans hxa) hn' fun b o hb e=>(hs.2 b (Aq (Af e))).trans ((Heap.get?_update_ne _ _ _ _ hb).trans (Ao _ e))
def P4 {Q:Unit->Shared->Prop} (z:ExN K C) (X:K.In h) (hx:h.get? a=some ⟨.ref C,none,.fields vs,sl⟩)
  (hq:∀h' tk',h'.get? a=some ⟨.ref C,some h.objs.size,.fields vs,sl⟩->h'.Ns1 h.objs.size (fun y=>if y="name" then some v else none)->(∀b o,b≠a->h.get? b=some o->h'.get? b=some o)->Q () ⟨h',g,d,tk',os⟩):
  wpAny (model prog w) A (setAttr (.ref a) "name" v) Q E ⟨h,g,d,t,os⟩:=by
 have I:PySem.W.InstAt h a ⟨.ref C,none,.fields vs,sl⟩ C none:=⟨hx,rfl,rfl,trivial⟩;have SF:=PySem.F.store_object;have l:PySem.W.Looks (model prog w) h (typeOf (.ref a)) (.ref C):=(PySem.W.Looks.ld (M:=model prog w) (part:=none) hx).andThen .now;have li:PySem.W.Looks (model prog w) h (isInstance (.ref a) (.type "object")) true:=l.andThen (PySem.W.looks_subIn X z.so)
 refine PySem.W.set_plain (s:=⟨h,g,d,t,os⟩) X I z.sa (E8 SF.slot.plain SF.entry (PySem.W.check_slot (i:="object.__setattr__") (owner:="object") (n:="__setattr__") (self:= .ref a) (rest:=[.str "name" t,v]) (kw:=[]) SF.kind SF.split li (SF.args (.ref a) (.str "name" t) v) ?_))
 exact P2 z X hx hq
end
section
variable {K:FG} {prog:Program} {w:World} {A:Around} {E:VP} {h:Heap} {g:Array GenState} {d:Drawn} {t:Nat} {os:OsState} {a C D:Addr} {vs:Array Value} {sl:Array (Option Value)} {m:Str->Option Value} {v x:Value} {dd:Option Addr}
def cls_at (X:K.In h) (e:(PySem.W.clsIn K C).isSome=true):∃c d cd sl,h.get? C=some ⟨c,d,.cls cd,sl⟩:=by
 unfold PySem.W.clsIn at e
 split at e
 .rename_i c' d' cd' sl' ho
  exact⟨c',d',cd',sl',X _ _ ho⟩
 .cases e
def P5 {M:Model} {Q:Unit->Shared->Prop} (si:(PySem.W.clsIn K C).isSome=true) (sv:PySem.W.subIn K (.ref C) (.type "ValueError")=some true) (X:K.In h) (hx:h.get? a=some ⟨.ref C,dd,.fields vs,sl⟩) (hq:Q () ⟨h,g,d,t,os⟩):wpAny M A (checkBuiltinCall "ValueError.__init__" ⟨[.ref a,x],[]⟩) Q E ⟨h,g,d,t,os⟩:=by
 have FB:=E7;have hshort:=FB.noStar;have ls:=PySem.W.looks_subIn (M:=M) X sv;obtain⟨c1,d1,cd1,sl1,hC⟩:=cls_at X si;simp only[checkBuiltinCall,FB.initKind,FB.initSplit,FB.initRow]
 repeat (first|with_reducible refine B7 hx ?_|with_reducible refine B7 hC ?_|with_reducible refine ls.at ?_|wp_step)
 exact hq
def P6 {R:Result->Shared->Prop} (si:(PySem.W.clsIn K C).isSome=true) (sv:PySem.W.subIn K (.ref C) (.type "ValueError")=some true) (X:K.In h) (hx:h.get? a=some ⟨.ref C,dd,.fields vs,sl⟩) {t0:Addr} (hv:vs[0]? =some (.ref t0))
  (hq:∀h',h'.get? a=some ⟨.ref C,dd,.fields (vs.setIfInBounds 0 (.ref h.objs.size)),sl⟩->(∀b o,b≠a->h.get? b=some o->h'.get? b=some o)->R (.ok (.ret .none)) ⟨h',g,d,t,os⟩):
  codeAny (model prog w) A (.call (.builtin "ValueError.__init__") ⟨[.ref a,x],[]⟩) R ⟨h,g,d,t,os⟩:=by
 have FB:=E7
 refine E8 FB.init.plain FB.initEntry (P5 si sv X hx ?_)
 wp_walk
 rw[hv];have hx1:=Ao (h:=h) {cls:= .type "tuple",data:= .seq #[x]} hx;have hsz:0<vs.size:=(C4.mp hv).1
 refine Ad (Ab (E6 hx1 rfl hsz ?_))
 refine wpAny_letGo (Ad (hq _ ?_ fun b o hb e=>?_))
 .exact C1 _ hx1 rfl
 .exact (Cm _ _ (A5 hb)).trans (Ao _ e)
end
def Its (z:Str):It:=⟨fun i _=>i<z.length,fun i H x H'=>H'=H/\∃c,z.cps[i]? =some c/\x=.str ⟨#[c]⟩,fun i _=>z.length<=i⟩
def P7 {P:Program} {w:World} {K:FG} {tg:Expr} (it:Addr) (z:Str) (t:Tok):Turn P w K tg (Its z) [it] it (fun i h=>h.IsStrIter it "str_ascii_iterator" z t i) where
 mem:=by simp
 obj:=fun i h st b hb=>by
  have e:b=it:=by simpa using hb
  subst e;obtain⟨o,e,c,d⟩:=st;exact⟨o,e,fun v y=>by rw[d]at y;cases y⟩
 keep:=fun i h h' st k=>by
  obtain⟨o,e,r⟩:=st;exact⟨o,k it (by simp) o e,r⟩
 item:=by
  intro X hP hw hK hc i pins s σ H E I hf st hg;subst hP hw hK;have hi:i<z.cps.size:=hg;obtain⟨f0,f1,f2,f3,f4,f5⟩:=hf it (by simp)
  refine wpAny_pyNext_ascii_item st (c:=z.cps[i]) (by simp[hi]) fun h' st' sb=>?_
  have I1:Inv X pins σ H {s with heap:=h',toks:=s.toks+1}:=I.turned (fun b o hb e=>(sb.2 b hb).trans e) f0 f1 f3 f4 f5
  obtain⟨o,e,c,d⟩:=id st';exact⟨_,rfl,EG (s:={s with heap:=h',toks:=s.toks+1}) e c d (by decide) ⟨.str ⟨#[z.cps[i]]⟩,H,I1,⟨_,rfl⟩,⟨rfl,_,by simp[hi],rfl⟩,st',fun b hb=>(hf b hb).1⟩⟩
 done:=by
  intro X hP hw hK hc i pins s σ H E I hf st hg;subst hP hw hK;have hi:z.cps.size<=i:=hg;obtain⟨f0,f1,f2,f3,f4,f5⟩:=hf it (by simp)
  exact wpAny_pyNext_ascii_end (I.ok.hd hc) st (by simp[hi]) fun h' eb=>⟨rfl,I.turned (t':=s.toks) (fun b o hb e=>eb b o hb e) f0 f1 f3 f4 f5⟩
 self:=fun _ _ _ _ _ st h=>wpAny_pyIter_striter_ascii st h
def P8 {P:Program} {w:World} {K:FG} {tg:Expr} (it:Addr) (z:Str) (t:Tok):Turn P w K tg (Its z) [it] it (fun i h=>h.IsStrIter it "str_iterator" z t i) where
 mem:=by simp
 obj:=fun i h st b hb=>by
  have e:b=it:=by simpa using hb
  subst e;obtain⟨o,e,c,d⟩:=st;exact⟨o,e,fun v y=>by rw[d]at y;cases y⟩
 keep:=fun i h h' st k=>by
  obtain⟨o,e,r⟩:=st;exact⟨o,k it (by simp) o e,r⟩
 item:=by
  intro X hP hw hK hc i pins s σ H E I hf st hg;subst hP hw hK;have hi:i<z.cps.size:=hg;obtain⟨f0,f1,f2,f3,f4,f5⟩:=hf it (by simp)
  refine wpAny_pyNext_wide_item st (c:=z.cps[i]) (by simp[hi]) fun h' st' sb=>?_
  have I1:Inv X pins σ H {s with heap:=h',toks:=s.toks+1}:=I.turned (fun b o hb e=>(sb.2 b hb).trans e) f0 f1 f3 f4 f5
  obtain⟨o,e,c,d⟩:=id st';exact⟨_,rfl,EG (s:={s with heap:=h',toks:=s.toks+1}) e c d (by decide) ⟨.str ⟨#[z.cps[i]]⟩,H,I1,⟨_,rfl⟩,⟨rfl,_,by simp[hi],rfl⟩,st',fun b hb=>(hf b hb).1⟩⟩
 done:=by
  intro X hP hw hK hc i pins s σ H E I hf st hg;subst hP hw hK;have hi:z.cps.size<=i:=hg;obtain⟨f0,f1,f2,f3,f4,f5⟩:=hf it (by simp)
  exact wpAny_pyNext_wide_end (I.ok.hd hc) st (by simp[hi]) fun h' eb=>⟨rfl,I.turned (t':=s.toks) (fun b o hb e=>eb b o hb e) f0 f1 f3 f4 f5⟩
 self:=fun _ _ _ _ _ st h=>wpAny_pyIter_striter_wide st h
section
variable {X:Cx} {tg:Expr}
def iStr (tl:TE):TI:=fun σ H R=>tl σ H fun x H1=> ∃z,x=.str z/\R (Its z) H1
def P9 {l:Expr} {tl:TE} (hl:PE X l tl):PI X tg l (iStr tl):=by
 intro pins s σ H R I h
 refine thn (hl pins s σ H _ I h) fun v s1 ⟨x,H1,I1,r1,q1⟩=>?_
 obtain⟨z,e,q⟩:=q1;subst e;obtain⟨t,rfl⟩:=r1;have fp:∀b∈[s1.heap.objs.size],yo X pins H1 b:=fun b hb=>by
  have e:b=s1.heap.objs.size:=by simpa using hb
  subst e;exact I1.fpOk (Ag _) (I1.hok.fresh (Ag _))
 cases ha:z.cps.all (· < 128)
 .exact wpAny_pyIter_wide ha ⟨s1.heap.objs.size,[s1.heap.objs.size],_,_,H1,rfl,I1.kept (t':=s1.toks) fun b o e=>Ao _ e,P8 _ z t,⟨_,A6 _ rfl,rfl,rfl⟩,fp,q⟩
 .exact wpAny_pyIter_ascii ha ⟨s1.heap.objs.size,[s1.heap.objs.size],_,_,H1,rfl,I1.kept (t':=s1.toks) fun b o e=>Ao _ e,P7 _ z t,⟨_,A6 _ rfl,rfl,rfl⟩,fp,q⟩
def rSlS:V->Option Int->Option Int->Hp->VK->Prop:=fun x lo hi H Q=> ∃z,x=.str z/\z.length<=sizeLine/\Q (.str (Txt.slice z lo hi)) H
def K1 {v:Value} {o:Option Int} (h:IsPart v o):∃p:Option (Int×Tok),v=partValue p/\p.map (·.1)=o:=by
 cases h with
 |none=>exact⟨none,rfl,rfl⟩
 |int i t=>exact⟨some (i,t),rfl,rfl⟩
def PB:SlR X rSlS:=by
 intro pins s σ H x v vl vu lo hi sl Q I rx hs pl pu h;obtain⟨z,rfl,hz,q⟩:=h;obtain⟨t,rfl⟩:=rx;obtain⟨p,rfl,rfl⟩:=K1 pl;obtain⟨p',rfl,rfl⟩:=K1 pu
 refine⟨"str",_,slot_str_getitem.lookup,typeIs_str _ _ _,?_⟩
 refine wpAny_getItem_str_slice (l:=p) (u:=p') (st:=none) hs rfl ?_
 exact post_val_or_str ⟨Bi (Txt.slice_le z _ _) hz,fun t' k=>⟨.str (Txt.slice z (p.map (·.1)) (p'.map (·.1))),H,I.tok k,⟨t',rfl⟩,q⟩⟩
end
def PC (z:Str) (c:Nat):(!(Builtin.Str.occurrences z ⟨#[c]⟩ 0 z.length 1).isEmpty)=decide (c∈z.cps.toList):=StrLaws.found_one z c
end L2
namespace L2
open PySem PySem.Spec PySem.W PyProof.Rows
def Ite (K:FG) (a:Addr):It:=
 ⟨fun i H=> ∃(xs:List V) (x:V),SqL K H a xs/\xs[i]? =some x,
  fun i H v H'=> ∃(T:Addr) (x:V),v=.ref T/\H T=none/\H'=zi H T (.tup [.int i,x])/\∀xs,SqL K H a xs->xs[i]? =some x,
  fun i H=> ∃xs,SqL K H a xs/\xs.length<=i⟩
def EnSt (z i1 a:Addr) (i:Nat) (h:Heap):Prop:=(∃old,IsEnum h z i1 (i:Int) old)/\h.IsListIter i1 a i
def PD {P:Program} {w:World} {K:FG} {elts:List Expr} {x1} {tp:Pos} {z i1 a:Addr} (hne:z≠i1):Turn P w K (.Tuple elts x1 tp) (Ite K a) [z,i1] z (EnSt z i1 a) where
 mem:=by simp
 obj:=fun i h st c hc=>by
  obtain⟨⟨old,hz⟩,⟨o1,e1,_,d1⟩⟩:=st;simp only[Ae,Bg,Bb]at hc
  rcases hc with rfl|rfl
  .exact⟨_,hz,fun v e=>by cases e⟩
  .exact⟨_,e1,fun v e=>by rw[d1]at e;cases e⟩
 keep:=fun i h h' st k=>by
  obtain⟨⟨old,hz⟩,h1⟩:=st;exact⟨⟨old,k z (by simp) _ hz⟩,h1.at fun o e=>k i1 (by simp) o e⟩
 item:=fun X hp hw hK hc i pins s σ H E I fp st go=>by
  subst hp hw hK;obtain⟨⟨old,hz⟩,h1⟩:=st;obtain⟨xs,x,qa,ex⟩:=go;obtain⟨vs,rv,pv,_⟩:=I.list qa;obtain⟨vx,evx,rvx⟩:=rv.get ex
  refine wpAny_pyNext_enum_item hz h1 pv.isList (x:=vx) (by simpa using evx) hne fun h' a1 a2 a3 a4 hk=>?_
  refine⟨_,rfl,wpAny_letOwnedTupleGo_enum a1 fun h'' b1 b2=>?_⟩
  have nz:s.heap.objs.size≠z:=Ci (Af hz);have k2:∀c o,c∉[z,i1]->s.heap.get? c=some o->h''.get? c=some o:=fun c o hcn e=>by
   simp only[Ae,Bg,Bb,not_or]at hcn;exact b2.extBut _ _ hcn.1 (hk c o hcn.1 hcn.2 e)
  have I':Inv X pins σ (zi H s.heap.objs.size (.tup [.int i,x])) {s with heap:=h'',toks:=s.toks+1}:=
   I.turnLay (ch:=[z,i1]) k2 (fun c hcn=>fp c hcn) (Ag _)
    ⟨by show 2<=sizeLine;decide,[.int i s.toks,vx],.cons ⟨_,rfl⟩ (.cons rvx .nil),⟨_,b2.extBut _ _ nz a3,rfl,_,rfl⟩⟩
  have nf:H s.heap.objs.size=none:=I.hok.fresh (Ag _)
  refine⟨.ref s.heap.objs.size,_,I',rfl,⟨_,x,rfl,nf,rfl,fun xs' q=>?_⟩,⟨⟨_,b1⟩,a2.extBut b2.extBut hne.symm⟩,fun c hcn=>?_⟩
  .rw[I.list_inj q qa];exact ex
  .have hc1:=fp c hcn
   have:c≠s.heap.objs.size:=by
    have hlt:c<s.heap.objs.size:=by
     simp only[Ae,Bg,Bb]at hcn
     rcases hcn with rfl|rfl
     .exact Af hz
     .obtain⟨_,e,_⟩:=h1;exact Af e
    exact Aq hlt
   rw[zy this];exact hc1.1
 done:=fun X hp hw hK hc i pins s σ H E I fp st stop=>by
  subst hp hw hK;obtain⟨⟨old,hz⟩,h1⟩:=st;obtain⟨xs,qa,hend⟩:=stop;obtain⟨vs,rv,pv,_⟩:=I.list qa;have l1:=rv.length
  refine wpAny_pyNext_enum_end (I.ok.hd hc) hz h1 pv.isList (by rw[Fs,Ak];lia) fun h' hk=>⟨rfl,?_⟩
  refine I.turnedL (ch:=[z,i1]) (t':=s.toks) (fun c o hcn e=>?_) (fun c hcn=>fp c hcn)
  simp only[Ae,Bg,Bb,not_or]at hcn;exact hk c o hcn.2 e
 self:=fun A i s Q E st h=>by
  obtain⟨⟨old,hz⟩,_⟩:=st;exact wpAny_pyIter_enum hz h
def PF (K:FG) (ta:TA):TI:=fun σ H R=>ta σ H fun vs H1=> ∃(a:Addr) (xs:List V),vs=[.ref a]/\SqL K H1 a xs/\R (Ite K a) H1
def PH {X:Cx} {elts:List Expr} {x1} {tp:Pos} {e1:Expr} {ta:TA} {p pos:Pos} (hg:Gl X "enumerate") (hm:X.mg "enumerate" =none) (ha:PA X [e1] ta) (hs:starEach [e1] X.env=[(false,eval e1 X.env)]:=by rfl):
  PI X (.Tuple elts x1 tp) (.Call (.Name "enumerate" p) [e1] [] pos) (PF X.K ta):=by
 intro pins s σ H R I h
 refine Call_ (AM I hg hm (by rfl) (Do (thn (ha pos pins s σ H _ I h) fun us s1 ⟨vs,H1,I1,r1,q1⟩=>?_) hs rfl))
 obtain⟨a,xs,rfl,qa,q⟩:=q1;obtain⟨u,rfl,ru⟩:=AQ r1;cases ru;obtain⟨vs,rva,pa,_⟩:=I1.list qa
 refine call_enumerate_list pa.isList fun h' hz hi1 hsz hk=>?_
 refine wpAny_pyIter_enum hz ?_
 have I2:Inv X pins σ H1 {s1 with heap:=h'}:=I1.kept (t':=s1.toks) hk
 refine⟨_,[s1.heap.objs.size+1,s1.heap.objs.size],_,_,H1,rfl,I2,PD (a:=a) (Ci (Da _)),⟨⟨_,hz⟩,hi1⟩,fun c hc=>?_,q⟩
 have hge:s1.heap.objs.size<=c:=by
  simp only[Ae,Bg,Bb]at hc
  rcases hc with rfl|rfl
  all_goals first|exact Ag _|exact Nat.le_add_right _ _
 exact I1.fpOk hge (I1.hok.fresh hge)
def PJ {a b:List Int} (p:a.Perm b) (ha:a.Pairwise (fun x y=>x<=y)) (hb:b.Pairwise (fun x y=>x<=y)):a=b:=
 p.eq_of_pairwise (fun x y _ _ h1 h2=>by lia) ha hb
end L2
namespace L3
open PySem L2
inductive V3 where
 |non|bl (b:Bool)|int (i:Int)|str (x:Str)|ty (n:String)
 |tup (xs:List V3)|lst (xs:List V3)|scr (ns:List Int)
 |dK (kvs:List (yC×V3))|dT (kvs:List (MK×V3))
 |obj (c:Str) (fs:List (Str×V3))|cls (c:Str)|fn (n:Str) (env:List V3)
 |loc (n:Nat)
inductive C3 where
 |lst (xs:List V3)|dK (kvs:List (yC×V3))|dT (kvs:List (MK×V3))|ins (c:Str) (fs:List (Str×V3))|dead
inductive Vl where
 |v (x:V3)|m (c:C3)
structure X3 where
 c:Str
 nm:Option V3
abbrev S3:=List (Option Vl)
abbrev H3:=List C3
inductive Res (α:Type) where
 |ok (r:α) (h:H3)|ex (x:X3) (h:H3)|no
abbrev E3:=S3->H3->Res Vl
def C3.fz:C3->Option V3
 |.lst xs=>some (.lst xs)
 |.dK kvs=>some (.dK kvs)
 |.dT kvs=>some (.dT kvs)
 |.ins c fs=>some (.obj c fs)
 |.dead=>none
def Vl.fz:Vl->Option V3
 |.v x=>some x
 |.m c=>c.fz
def Res.bind {α β:Type} (r:Res α) (k:α->H3->Res β):Res β:=match r with
 |.ok r h=>k r h
 |.ex x h=>.ex x h
 |.no=>.no
structure Kx where
 K:FG
 cl:Str->Option Addr
def KnL (K:FG) (a:Addr) (ns:List Int):Prop:=
 ∃(o:Obj) (its:Array Value) (n:Nat),K.lookup a=some o/\o.cls=.type "list" /\o.dict=none/\o.data=.seq its n/\its.size<=sizeLine/\Vals (ns.map V.int) its.toList
def XD (β:AO) (O:Addr->Prop) (H:Hp) (dd:Option Addr) (fs:List V3):Prop:=match dd with
 |none=>fs=[]
 |some d=> ∃z:Str,fs=[.str z]/\H d=some (.xd [(("name" :Str),V.str z)])/\some d∉β/\¬O d
def XD.imp {β β':AO} {O O':Addr->Prop} {H H':Hp} {dd:Option Addr} {fs:List V3} (x:XD β O H dd fs) (k:∀d o,H d=some o->some d∉β->¬O d->H' d=some o/\some d∉β'/\¬O' d):XD β' O' H' dd fs:=by
 cases dd with
 |none=>exact x
 |some d=>
  obtain⟨z,e,h,n,q⟩:=x;obtain⟨h1,n1,q1⟩:=k d _ h n q;exact⟨z,e,h1,n1,q1⟩
mutual
inductive Rep (κ:Kx) (β:AO) (O:Addr->Prop) (H:Hp):V3->V->Prop
 |non:Rep κ β O H .non .non
 |bl (b:Bool):Rep κ β O H (.bl b) (.bl b)
 |int (i:Int):Rep κ β O H (.int i) (.int i)
 |str (x:Str):Rep κ β O H (.str x) (.str x)
 |ty (n:String):Rep κ β O H (.ty n) (.ty n)
 |tup {xs:List V3} {ys:List V} {a:Addr}:H a=some (.tup ys)->some a∉β->¬O a->Reps κ β O H xs ys->Rep κ β O H (.tup xs) (.ref a)
 |lst {xs:List V3} {ys:List V} {a:Addr}:H a=some (.lst ys)->some a∉β->¬O a->Reps κ β O H xs ys->Rep κ β O H (.lst xs) (.ref a)
 |scr {ns:List Int} {a:Addr} {o:Obj}:H a=some (.frz o (.lst (ns.map V.int)))->some a∉β->¬O a->Rep κ β O H (.scr ns) (.ref a)
 |scrK {ns:List Int} {a:Addr}:KnL κ.K a ns->Rep κ β O H (.scr ns) (.ref a)
 |dK {kvs:List (yC×V3)} {ws:List (yC×V)} {a:Addr}:H a=some (.dK ws)->some a∉β->¬O a->RepP κ β O H kvs ws->Rep κ β O H (.dK kvs) (.ref a)
 |dT {kvs:List (MK×V3)} {ws:List (MK×V)} {a:Addr}:H a=some (.dT ws)->some a∉β->¬O a->RepP κ β O H kvs ws->Rep κ β O H (.dT kvs) (.ref a)
 |obj {c:Str} {C:Addr} {fs:List (Str×V3)} {gs:List (Str×V)} {a dx:Addr}:κ.cl c=some C->H a=some (.ins C dx gs)->some a∉β->¬O a->RepP κ β O H fs gs->Rep κ β O H (.obj c fs) (.ref a)
 |cls {c:Str} {C:Addr}:κ.cl c=some C->Rep κ β O H (.cls c) (.ref C)
 |exc {c:Str} {C a:Addr} {dd:Option Addr} {fs:List V3}:κ.cl c=some C->H a=some (excO a (.ref C) dd)->some a∉β->¬O a->XD β O H dd fs->Rep κ β O H (.fn c fs) (.ref a)
 |loc {n:Nat} {v:V}:n<β.length->(∀a,β[n]? =some (some a)->v=.ref a)->Rep κ β O H (.loc n) v
inductive Reps (κ:Kx) (β:AO) (O:Addr->Prop) (H:Hp):List V3->List V->Prop
 |nil:Reps κ β O H [] []
 |cons {x:V3} {y:V} {xs:List V3} {ys:List V}:Rep κ β O H x y->Reps κ β O H xs ys->Reps κ β O H (x::xs) (y::ys)
inductive RepP (κ:Kx) (β:AO) (O:Addr->Prop) (H:Hp):{α:Type}->List (α×V3)->List (α×V)->Prop
 |nil {α:Type}:RepP κ β O H (α:=α) [] []
 |cons {α:Type} {k:α} {x:V3} {y:V} {xs:List (α×V3)} {ys:List (α×V)}:Rep κ β O H x y->RepP κ β O H xs ys->RepP κ β O H ((k,x)::xs) ((k,y)::ys)
end
structure Ext (M:Addr->Prop) (β:AO) (H:Hp) (β':AO) (H':Hp):Prop where
 keep:∀a o,H a=some o->some a∉β->¬M a->H' a=some o/\some a∉β'
 len:β.length<=β'.length
 bet:∀i a,i<β.length->β'[i]? =some (some a)->β[i]? =some (some a)
 there:∀a o,H a=some o->∃o',H' a=some o'
 nwb:∀(i:Nat) a,β.length<=i->β'[i]? =some (some a)->H a=none
def nwb0 {β:AO} {H:Hp}:∀(i:Nat) a,β.length<=i->β[i]? =some (some a)->H a=none:=fun i a h e=>by
 have:=(An.mp e).1;lia
abbrev No:Addr->Prop:=fun _=>False
def Ext.refl {M:Addr->Prop} {β:AO} {H:Hp}:Ext M β H β H:=⟨fun _ _ h n _=>⟨h,n⟩,Ag _,fun _ _ _ h=>h,fun _ o h=>⟨o,h⟩,nwb0⟩
def K2 {β β1 β2:AO} {H H1:Hp} (t:∀a o,H a=some o->∃o',H1 a=some o') (bet:∀i a,i<β1.length->β2[i]? =some (some a)->β1[i]? =some (some a)) (n1:∀(i:Nat) a,β.length<=i->β1[i]? =some (some a)->H a=none)
  (n2:∀(i:Nat) a,β1.length<=i->β2[i]? =some (some a)->H1 a=none):∀(i:Nat) a,β.length<=i->β2[i]? =some (some a)->H a=none:=fun i a hi h=>by
 by_cases h1:i<β1.length
 .exact n1 i a hi (bet i a h1 h)
 .cases w:H a with
  |none=>rfl
  |some o=>
   obtain⟨o',z⟩:=t a o w;rw[n2 i a (by lia) h]at z;cases z
def Ext.trans0 {β β1 β2:AO} {H H1 H2:Hp} (a:Ext No β H β1 H1) (b:Ext No β1 H1 β2 H2):Ext No β H β2 H2:=
 ⟨fun x o h n m=>let ⟨h1,n1⟩:=a.keep x o h n m;b.keep x o h1 n1 m,Bi a.len b.len,fun i x hi h=>a.bet i x hi (b.bet i x (Ay hi a.len) h),fun x o h=>let ⟨o1,h1⟩:=a.there x o h;b.there x o1 h1,K2 a.there (fun i x hi h=>b.bet i x hi h) a.nwb b.nwb⟩
section
variable {κ:Kx} {β β':AO} {O O':Addr->Prop} {H H':Hp} {M:Addr->Prop}
mutual
theorem Rep.ext (e:Ext M β H β' H') (hM:∀a,M a->O a) (hO:∀a o,H a=some o->¬O a->¬O' a):∀{x:V3} {y:V},Rep κ β O H x y->Rep κ β' O' H' x y
 |_,_,.non=>.non
 |_,_,.bl b=>.bl b
 |_,_,.int i=>.int i
 |_,_,.str x=>.str x
 |_,_,.ty n=>.ty n
 |_,_,.tup h n o r=>let ⟨h1,n1⟩:=e.keep _ _ h n fun m=>o (hM _ m);.tup h1 n1 (hO _ _ h o) (Reps.ext e hM hO r)
 |_,_,.lst h n o r=>let ⟨h1,n1⟩:=e.keep _ _ h n fun m=>o (hM _ m);.lst h1 n1 (hO _ _ h o) (Reps.ext e hM hO r)
 |_,_,.scr h n o=>let ⟨h1,n1⟩:=e.keep _ _ h n fun m=>o (hM _ m);.scr h1 n1 (hO _ _ h o)
 |_,_,.scrK h=>.scrK h
 |_,_,.dK h n o r=>let ⟨h1,n1⟩:=e.keep _ _ h n fun m=>o (hM _ m);.dK h1 n1 (hO _ _ h o) (RepP.ext e hM hO r)
 |_,_,.dT h n o r=>let ⟨h1,n1⟩:=e.keep _ _ h n fun m=>o (hM _ m);.dT h1 n1 (hO _ _ h o) (RepP.ext e hM hO r)
 |_,_,.obj k h n o r=>let ⟨h1,n1⟩:=e.keep _ _ h n fun m=>o (hM _ m);.obj k h1 n1 (hO _ _ h o) (RepP.ext e hM hO r)
 |_,_,.cls k=>.cls k
 |_,_,.exc k h n o x=>let ⟨h1,n1⟩:=e.keep _ _ h n fun m=>o (hM _ m);.exc k h1 n1 (hO _ _ h o) (x.imp fun d u h n q=>let ⟨h1,n1⟩:=e.keep d u h n fun m=>q (hM _ m);⟨h1,n1,hO d u h q⟩)
 |_,_,.loc l h=>.loc (Ay l e.len) fun a q=>h a (e.bet _ _ l q)
theorem Reps.ext (e:Ext M β H β' H') (hM:∀a,M a->O a) (hO:∀a o,H a=some o->¬O a->¬O' a):∀{x:List V3} {y:List V},Reps κ β O H x y->Reps κ β' O' H' x y
 |_,_,.nil=>.nil
 |_,_,.cons a r=>.cons (Rep.ext e hM hO a) (Reps.ext e hM hO r)
theorem RepP.ext (e:Ext M β H β' H') (hM:∀a,M a->O a) (hO:∀a o,H a=some o->¬O a->¬O' a):∀{α:Type} {x:List (α×V3)} {y:List (α×V)},RepP κ β O H x y->RepP κ β' O' H' x y
 |_,_,_,.nil=>.nil
 |_,_,_,.cons a r=>.cons (Rep.ext e hM hO a) (RepP.ext e hM hO r)
end
end
section
variable {κ:Kx} {β β':AO} {O O':Addr->Prop} {H H':Hp} {M:Addr->Prop}
def Rep.sub (h:∀a,O' a->O a) {x:V3} {y:V} (r:Rep κ β O H x y):Rep κ β O' H x y:=r.ext (M:=No) Ext.refl (fun _ z=>z.elim) fun a _ _ n m=>n (h a m)
def Reps.sub (h:∀a,O' a->O a) {x:List V3} {y:List V} (r:Reps κ β O H x y):Reps κ β O' H x y:=r.ext (M:=No) Ext.refl (fun _ z=>z.elim) fun a _ _ n m=>n (h a m)
def RepP.sub (h:∀a,O' a->O a) {α:Type} {x:List (α×V3)} {y:List (α×V)} (r:RepP κ β O H x y):RepP κ β O' H x y:=r.ext (M:=No) Ext.refl (fun _ z=>z.elim) fun a _ _ n m=>n (h a m)
def Rep.ext0 (e:Ext No β H β' H') {x:V3} {y:V} (r:Rep κ β O H x y):Rep κ β' O H' x y:=r.ext e (fun _ z=>z.elim) fun _ _ _ n=>n
def Reps.ext0 (e:Ext No β H β' H') {x:List V3} {y:List V} (r:Reps κ β O H x y):Reps κ β' O H' x y:=r.ext e (fun _ z=>z.elim) fun _ _ _ n=>n
def RepP.ext0 (e:Ext No β H β' H') {α:Type} {x:List (α×V3)} {y:List (α×V)} (r:RepP κ β O H x y):RepP κ β' O H' x y:=r.ext e (fun _ z=>z.elim) fun _ _ _ n=>n
theorem Reps.length:∀{x:List V3} {y:List V},Reps κ β O H x y->x.length=y.length
 |_,_,.nil=>rfl
 |_,_,.cons _ r=>congrArg (· +1) r.length
theorem RepP.length {α:Type}:∀{x:List (α×V3)} {y:List (α×V)},RepP κ β O H x y->x.length=y.length
 |_,_,.nil=>rfl
 |_,_,.cons _ r=>congrArg (· +1) r.length
theorem Reps.get:∀{xs:List V3} {ys:List V} {i:Nat} {x:V3},Reps κ β O H xs ys->xs[i]? =some x->∃y,ys[i]? =some y/\Rep κ β O H x y
 |_,_,_,_,.nil,e=>by simp at e
 |_,_,0,_,.cons r _,e=>by simp at e;subst e;exact⟨_,rfl,r⟩
 |_,_,i+1,x,.cons _ t,e=>by
  obtain⟨u,h1,h2⟩:=Reps.get (i:=i) (x:=x) t (by simpa using e)
  exact⟨u,by simpa using h1,h2⟩
theorem Reps.get':∀{xs:List V3} {ys:List V} {i:Nat} {y:V},Reps κ β O H xs ys->ys[i]? =some y->∃x,xs[i]? =some x/\Rep κ β O H x y
 |_,_,_,_,.nil,e=>by simp at e
 |_,_,0,_,.cons r _,e=>by simp at e;subst e;exact⟨_,rfl,r⟩
 |_,_,i+1,x,.cons _ t,e=>by
  obtain⟨u,h1,h2⟩:=Reps.get' (i:=i) (y:=x) t (by simpa using e)
  exact⟨u,by simpa using h1,h2⟩
theorem Reps.append:∀{xs:List V3} {ys:List V} {xs':List V3} {ys':List V},Reps κ β O H xs ys->Reps κ β O H xs' ys'->Reps κ β O H (xs++xs') (ys++ys')
 |_,_,_,_,.nil,s=>s
 |_,_,_,_,.cons r t,s=>.cons r (Reps.append t s)
theorem Reps.set {x:V3} {u:V} (r:Rep κ β O H x u):∀{xs:List V3} {us:List V} (i:Nat),Reps κ β O H xs us->Reps κ β O H (xs.set i x) (us.set i u)
 |_,_,_,.nil=>.nil
 |_,_,0,.cons _ t=>.cons r t
 |_,_,i+1,.cons q t=>.cons q (Reps.set r i t)
theorem Reps.take:∀{xs:List V3} {us:List V} (n:Nat),Reps κ β O H xs us->Reps κ β O H (xs.take n) (us.take n)
 |_,_,0,_=>.nil
 |_,_,_+1,.nil=>.nil
 |_,_,n+1,.cons r t=>.cons r (Reps.take n t)
theorem Reps.drop:∀{xs:List V3} {us:List V} (n:Nat),Reps κ β O H xs us->Reps κ β O H (xs.drop n) (us.drop n)
 |_,_,0,r=>r
 |_,_,_+1,.nil=>.nil
 |_,_,n+1,.cons _ t=>Reps.drop n t
theorem Reps.dropLast {xs:List V3} {us:List V} (h:Reps κ β O H xs us):Reps κ β O H xs.dropLast us.dropLast:=by
 rw[List.dropLast_eq_take,List.dropLast_eq_take,h.length];exact h.take _
theorem Reps.rep {xs:List V3} {us:List V} (h:Reps κ β O H xs us):∀k:Nat,Reps κ β O H (List.replicate k xs).flatten (List.replicate k us).flatten
 |0=>.nil
 |k+1=>by
  rw[De,De,Dt,Dt];exact h.append (Reps.rep h k)
theorem RepP.lookup {α:Type} [BEq α] {f:α} {x:V3}:∀{xs:List (α×V3)} {ys:List (α×V)},RepP κ β O H xs ys->xs.lookup f=some x->∃y,ys.lookup f=some y/\Rep κ β O H x y
 |_,_,.nil,e=>by cases e
 |_,_,.cons (k:=k) r t,e=>by
  rw[Bp]at e ⊢;cases q:f==k with
  |true=>rw[q]at e;cases e;exact⟨_,rfl,r⟩
  |false=>rw[q]at e;exact RepP.lookup t e
theorem RepP.lookup_none {α:Type} [BEq α] {f:α}:∀{xs:List (α×V3)} {ys:List (α×V)},RepP κ β O H xs ys->xs.lookup f=none->ys.lookup f=none
 |_,_,.nil,_=>rfl
 |_,_,.cons (k:=k) r t,e=>by
  rw[Bp]at e ⊢;cases q:f==k with
  |true=>rw[q]at e;cases e
  |false=>rw[q]at e;exact RepP.lookup_none t e
end
def CellR (κ:Kx) (β:AO) (O:Addr->Prop) (H:Hp):C3->Addr->Prop
 |.lst xs,a=> ∃ys,H a=some (.lst ys)/\Reps κ β O H xs ys
 |.dK kvs,a=> ∃ws,H a=some (.dK ws)/\RepP κ β O H kvs ws
 |.dT kvs,a=> ∃ws,H a=some (.dT ws)/\RepP κ β O H kvs ws
 |.ins c fs,a=> ∃C dx gs,κ.cl c=some C/\H a=some (.ins C dx gs)/\RepP κ β O H fs gs
 |.dead,_=>False
structure RelH (κ:Kx) (O:Addr->Prop) (β:AO) (h:H3) (H:Hp):Prop where
 len:β.length=h.length
 inj:∀(i j:Nat) a,β[i]? =some (some a)->β[j]? =some (some a)->i=j
 off:∀a,O a->some a∉β
 trk:∀a,O a->∃o,H a=some o/\∀ys,o≠HO.tup ys
 btr:∀(i:Nat) a,β[i]? =some (some a)->∃o,H a=some o/\∀ys,o≠HO.tup ys
 cell:∀(i:Nat) c,h[i]? =some c->c=.dead\/∃a,β[i]? =some (some a)/\CellR κ β O H c a
structure Fr where
 Oi:Addr->Prop
 T:List Addr
 β:AO
 l:AO
 s:S3
 h:H3
def Fr.O (F:Fr):Addr->Prop:=fun a=>a∈F.T\/some a∈F.l\/F.Oi a
def SlotR (κ:Kx) (F:Fr) (H:Hp) (i:Nat):Vl->V->Prop
 |.v x,v=>Rep κ F.β F.O H x v
 |.m c,v=> ∃a,F.l[i]? =some (some a)/\v=.ref a/\CellR κ F.β F.O H c a
structure Rel (κ:Kx) (F:Fr) (σ:St) (H:Hp):Prop where
 heap:RelH κ F.O F.β F.h H
 slen:F.s.length=σ.length
 llen:F.l.length=F.s.length
 linj:∀(i j:Nat) a,F.l[i]? =some (some a)->F.l[j]? =some (some a)->i=j
 lt:∀a,some a∈F.l->a∉F.T
 lo:∀a,some a∈F.l->¬F.Oi a
 to:∀a∈F.T,¬F.Oi a
 tn:F.T.Nodup
 slot:∀(i:Nat) x,F.s[i]? =some (some x)->∃v,σ[i]? =some (some v)/\SlotR κ F H i x v
section
variable {κ:Kx} {β β':AO} {O O':Addr->Prop} {H H':Hp} {M:Addr->Prop} {c:C3} {a:Addr} {h:H3}
theorem CellR.sub (hs:∀a,O' a->O a) (r:CellR κ β O H c a):CellR κ β O' H c a:=by
 cases c with
 |lst xs=>obtain⟨_,q,r⟩:=r;exact⟨_,q,r.sub hs⟩
 |dK xs=>obtain⟨_,q,r⟩:=r;exact⟨_,q,r.sub hs⟩
 |dT xs=>obtain⟨_,q,r⟩:=r;exact⟨_,q,r.sub hs⟩
 |ins c fs=>obtain⟨_,_,_,k,q,r⟩:=r;exact⟨_,_,_,k,q,r.sub hs⟩
 |dead=>exact r
theorem CellR.ext (e:Ext M β H β' H') (hM:∀a,M a->O a) (hO:∀a o,H a=some o->¬O a->¬O' a) (hb:∀o,H a=some o->H' a=some o) (r:CellR κ β O H c a):CellR κ β' O' H' c a:=by
 cases c with
 |lst xs=>obtain⟨_,q,r⟩:=r;exact⟨_,hb _ q,r.ext e hM hO⟩
 |dK xs=>obtain⟨_,q,r⟩:=r;exact⟨_,hb _ q,r.ext e hM hO⟩
 |dT xs=>obtain⟨_,q,r⟩:=r;exact⟨_,hb _ q,r.ext e hM hO⟩
 |ins c fs=>obtain⟨_,_,_,k,q,r⟩:=r;exact⟨_,_,_,k,hb _ q,r.ext e hM hO⟩
 |dead=>exact r
theorem CellR.fz {x:V3} (hc:c.fz=some x) (hn:some a∉β) (ho: ¬O a) (r:CellR κ β O H c a):Rep κ β O H x (.ref a):=by
 cases c with
 |lst xs=>cases hc;obtain⟨_,q,r⟩:=r;exact .lst q hn ho r
 |dK xs=>cases hc;obtain⟨_,q,r⟩:=r;exact .dK q hn ho r
 |dT xs=>cases hc;obtain⟨_,q,r⟩:=r;exact .dT q hn ho r
 |ins c fs=>cases hc;obtain⟨_,_,_,k,q,r⟩:=r;exact .obj k q hn ho r
 |dead=>exact r.elim
theorem RelH.sub (hs:∀a,O' a->O a) (r:RelH κ O β h H):RelH κ O' β h H:=
 ⟨r.len,r.inj,fun a ha=>r.off a (hs a ha),fun a ha=>r.trk a (hs a ha),r.btr,fun i c hc=>(r.cell i c hc).imp id fun ⟨a,ha,q⟩=>⟨a,ha,q.sub hs⟩⟩
end
abbrev Fr.with (F:Fr) (p:Addr):Fr:={F with T:=p::F.T}
abbrev Fr.to (F:Fr) (β:AO) (h:H3):Fr:={F with β:=β,h:=h}
abbrev Nw (H:Hp):Addr->Prop:=fun p=>H p=none
def Post (κ:Kx) (N:Addr->Prop) (F:Fr) (σ:St) (H:Hp):Vl->V->Prop
 |.v x,v=>Rel κ F σ H/\Rep κ F.β F.O H x v
 |.m c,v=> ∃p,v=.ref p/\Rel κ (F.with p) σ H/\CellR κ F.β (F.with p).O H c p/\N p
def XOk (κ:Kx) (E:XK) (x:X3) (β:AO) (O:Addr->Prop) (H:Hp):Prop:=∀C dd,κ.cl x.c=some C->XD β O H dd x.nm.toList->E (.ref C) dd H
def XOk.sub {κ:Kx} {E:XK} {x:X3} {β:AO} {O O':Addr->Prop} {H:Hp} (o:XOk κ E x β O H) (hs:∀a,O a->O' a):XOk κ E x β O' H:=fun C dd hC q=>o C dd hC (q.imp fun d u h n m=>⟨h,n,fun z=>m (hs d z)⟩)
abbrev Kd (α ω:Type):=Hp->Fr->St->Hp->α->ω->Prop
def BO {α ω:Type} (K:Kd α ω):Prop:=∀(M:Addr->Prop) β H β1 H1 F σ H' a w,Ext M β H β1 H1->K H1 F σ H' a w->K H F σ H' a w
def Out {α ω:Type} (κ:Kx) (E:XK) (K:Kd α ω) (F:Fr) (σ:St) (H:Hp) (Q:ω->Hp->Prop):Res α->Prop
 |.ok a h'=> ∀β' w H',Ext No F.β H β' H'->K H (F.to β' h') σ H' a w->Q w H'
 |.ex x h'=> ∀β' H',Ext No F.β H β' H'->RelH κ F.Oi β' h' H'->XOk κ E x β' F.Oi H'
 |.no=>False
def tOf {α ω:Type} (κ:Kx) (E:XK) (K:Kd α ω) (d:S3->H3->Res α) (σ:St) (H:Hp) (Q:ω->Hp->Prop):Prop:=∃F,Rel κ F σ H/\Out κ E K F σ H Q (d F.s F.h)
def kE (κ:Kx):Kd Vl V:=fun H F σ H' r v=>Post κ (Nw H) F σ H' r v
abbrev zh (κ:Kx) (E:XK) (d:E3):TE:=tOf κ E (kE κ) d
section
variable {κ:Kx} {E:XK} {F:Fr} {σ:St} {H H':Hp} {Q:VK} {p:Addr}
def Fr.O_with {a:Addr} (h:F.O a):(F.with p).O a:=h.imp (fun z=>Am _ z) id
theorem SlotR.sub {F F':Fr} {i:Nat} {x:Vl} {v:V} (hb:F'.β=F.β) (hl:F'.l=F.l) (hs:∀a,F'.O a->F.O a) (h:SlotR κ F H i x v):SlotR κ F' H i x v:=by
 cases x with
 |v x=>show Rep κ F'.β F'.O H x v;rw[hb];exact Rep.sub hs h
 |m c=>obtain⟨a,h1,h2,h3⟩:=h;refine⟨a,by rw[hl];exact h1,h2,?_⟩;rw[hb];exact h3.sub hs
def Rel.drop (h:Rel κ (F.with p) σ H):Rel κ F σ H where
 heap:=h.heap.sub fun a ha=>Fr.O_with ha
 slen:=h.slen
 llen:=h.llen
 linj:=h.linj
 lt:=fun a ha z=>h.lt a ha (Am _ z)
 lo:=h.lo
 to:=fun a ha=>h.to a (Am _ ha)
 tn:=(Bu.mp h.tn).2
 slot:=fun i x e=>let ⟨v,a,b⟩:=h.slot i x e;⟨v,a,SlotR.sub (F:=F.with p) (F':=F) rfl rfl (fun a ha=>Fr.O_with ha) b⟩
def Rel.apart (h:Rel κ (F.with p) σ H): ¬F.O p:=fun z=>by
 rcases z with z|z|z
 .exact (Bu.mp h.tn).1 z
 .exact h.lt p z Aj
 .exact h.to p Aj z
def Rel.offp (h:Rel κ (F.with p) σ H):some p∉F.β:=h.heap.off p (.inl Aj)
theorem Post.fz {N:Addr->Prop} {x:Vl} {y:V3} {v:V} (h:Post κ N F σ H x v) (e:x.fz=some y):Rel κ F σ H/\Rep κ F.β F.O H y v:=by
 cases x with
 |v x=>cases e;exact h
 |m c=>
  obtain⟨p,rfl,r,q,_⟩:=h;exact⟨r.drop,(q.sub (O':=F.O) fun a ha=>Fr.O_with ha).fz e r.offp r.apart⟩
def Post.imp {N N':Addr->Prop} {x:Vl} {v:V} (h:Post κ N F σ H x v) (k:∀p,N p->N' p):Post κ N' F σ H x v:=by
 cases x with
 |v x=>exact h
 |m c=>obtain⟨p,h1,h2,h3,h4⟩:=h;exact⟨p,h1,h2,h3,k p h4⟩
def Ext.nw {M:Addr->Prop} {β β':AO} {H0 H1:Hp} (e:Ext M β H0 β' H1):∀p,Nw H1 p->Nw H0 p:=fun p h=>by
 cases w:H0 p with
 |none=>exact w
 |some o=>obtain⟨o',z⟩:=e.there p o w;rw[h]at z;cases z
def Rel.slotExt {β':AO} {h':H3} (r:Rel κ F σ H) (e:Ext No F.β H β' H') {i:Nat} {x:Vl} {v:V} (q:SlotR κ F H i x v):SlotR κ (F.to β' h') H' i x v:=by
 cases x with
 |v x=>exact Rep.ext0 e q
 |m c=>
  obtain⟨a,h1,h2,h3⟩:=q;have ha:F.O a:= .inr (.inl (Ap h1));exact⟨a,h1,h2,h3.ext e (fun _ z=>z.elim) (fun _ _ _ n=>n) fun o ho=>(e.keep a o ho (r.heap.off a ha) fun z=>z).1⟩
def Rel.next {β':AO} {h':H3} (r:Rel κ F σ H) (e:Ext No F.β H β' H') (rh:RelH κ F.O β' h' H'):Rel κ (F.to β' h') σ H' where
 heap:=rh
 slen:=r.slen
 llen:=r.llen
 linj:=r.linj
 lt:=r.lt
 lo:=r.lo
 to:=r.to
 tn:=r.tn
 slot:=fun i x hx=>let ⟨v,a,b⟩:=r.slot i x hx;⟨v,a,r.slotExt e b⟩
def Out.move {α ω:Type} {K:Kd α ω} {Q:ω->Hp->Prop} {r:Res α} {β':AO} {h':H3} (hK:BO K) (e:Ext No F.β H β' H') (o:Out κ E K F σ H Q r):Out κ E K (F.to β' h') σ H' Q r:=by
 cases r with
 |ok x h2=>exact fun β2 v H2 e2 p=>o β2 v H2 (e.trans0 e2) (hK _ _ _ _ _ _ _ _ _ _ e p)
 |ex x h2=>exact fun β2 H2 e2 p=>o β2 H2 (e.trans0 e2) p
 |no=>exact o
def zE:BO (kE κ):=fun M β H β1 H1 F σ H' a w e h=>Post.imp h e.nw
def tOf.mono {α ω:Type} {K:Kd α ω} {Q Q':ω->Hp->Prop} {d:S3->H3->Res α} (h:tOf κ E K d σ H Q) (k:∀v H,Q v H->Q' v H):tOf κ E K d σ H Q':=by
 obtain⟨F,rel,o⟩:=h
 refine⟨F,rel,?_⟩
 cases q:d F.s F.h with
 |ok r h1=>rw[q]at o;exact fun β v H' e p=>k _ _ (o β v H' e p)
 |ex x h1=>rw[q]at o;exact o
 |no=>rw[q]at o;exact o
def zO {α ω α' ω':Type} {K:Kd α ω} {K':Kd α' ω'} {Q:ω'->Hp->Prop} {a:S3->H3->Res α} {k:α->H3->Res α'} (hK:BO K') (rel:Rel κ F σ H) (h:Out κ E K' F σ H Q ((a F.s F.h).bind k)):
  tOf κ E K a σ H (fun w H1=> ∃β1 h1 x,Ext No F.β H β1 H1/\K H (F.to β1 h1) σ H1 x w/\Out κ E K' (F.to β1 h1) σ H1 Q (k x h1)):=by
 refine⟨F,rel,?_⟩
 cases q:a F.s F.h with
 |no=>rw[q]at h;exact h
 |ex x h1=>rw[q]at h;exact h
 |ok r h1=>rw[q]at h;exact fun β1 v H1 e p=>⟨β1,h1,r,e,p,Out.move hK e h⟩
def yE {β:AO} {o:HO} (hp:H p=none):Ext No β H β (zi H p o):=
 ⟨fun a u ha hn _=>⟨by rw[zy (yw ha hp)];exact ha,hn⟩,Ag _,fun _ _ _ h=>h,fun a u ha=>⟨u,by rw[zy (yw ha hp)];exact ha⟩,nwb0⟩
def RelH.trk' {O:Addr->Prop} {β:AO} {h:H3} (r:RelH κ O β h H) (a:Addr) (ha:O a):∃o,H a=some o:=let ⟨u,q,_⟩:=r.trk a ha;⟨u,q⟩
def RelH.btr' {O:Addr->Prop} {β:AO} {h:H3} (r:RelH κ O β h H) (i:Nat) (a:Addr) (e:β[i]? =some (some a)):∃o,H a=some o:=let ⟨u,q,_⟩:=r.btr i a e;⟨u,q⟩
def CellR.nt {β:AO} {O:Addr->Prop} {c:C3} {u:HO} {l:Addr} (h:CellR κ β O (zi H l u) c l):∀ys,u≠HO.tup ys:=by
 intro ys z;subst z;cases c with
 |lst xs=>obtain⟨_,e,_⟩:=h;rw[z6]at e;cases e
 |dK xs=>obtain⟨_,e,_⟩:=h;rw[z6]at e;cases e
 |dT xs=>obtain⟨_,e,_⟩:=h;rw[z6]at e;cases e
 |ins c fs=>obtain⟨_,_,_,_,e,_⟩:=h;rw[z6]at e;cases e
 |dead=>exact h
def RelH.off_new {O:Addr->Prop} {β:AO} {h:H3} (r:RelH κ O β h H) (hp:H p=none):some p∉β/\¬O p:=by
 refine⟨fun z=>?_,fun z=>?_⟩
 .obtain⟨i,hi⟩:=Bz z
  obtain⟨o,ho,_⟩:=r.btr i p hi;rw[hp]at ho;cases ho
 .obtain⟨o,ho,_⟩:=r.trk p z
  rw[hp]at ho;cases ho
def RelH.laid {O:Addr->Prop} {β:AO} {h:H3} {o:HO} (r:RelH κ O β h H) (hp:H p=none):RelH κ O β h (zi H p o):=by
 have k:∀a u,H a=some u->zi H p o a=some u:=fun a u ha=>by rw[zy (yw ha hp)];exact ha
 exact⟨r.len,r.inj,r.off,fun a ha=>let ⟨u,q,n⟩:=r.trk a ha;⟨u,k a u q,n⟩,fun i a e=>let ⟨u,q,n⟩:=r.btr i a e;⟨u,k a u q,n⟩,
  fun i c hc=>(r.cell i c hc).imp id fun ⟨a,ha,q⟩=>⟨a,ha,q.ext (yE hp) (fun _ z=>z.elim) (fun _ _ _ n=>n) fun u hu=>k a u hu⟩⟩
theorem Rel.laid {o:HO} (r:Rel κ F σ H) (hp:H p=none):Rel κ F σ (zi H p o):=r.next (yE hp) (r.heap.laid hp)
def O_ne {a:Addr} (h:(F.with p).O a) (hne:a≠p):F.O a:=by
 rcases h with h|h
 .rcases Ae.mp h with h|h
  .exact absurd h hne
  .exact .inl h
 .exact .inr h
def Rel.new {o:HO} (r:Rel κ F σ H) (hp:H p=none) (ho:∀ys,o≠HO.tup ys:=by intro _ z;cases z):Rel κ (F.with p) σ (zi H p o)/\∀{x:V3} {y:V},Rep κ F.β F.O H x y->Rep κ F.β (F.with p).O (zi H p o) x y:=by
 obtain⟨n1,n2⟩:=r.heap.off_new hp;have e:Ext No F.β H F.β (zi H p o):=yE hp;have hM:∀a,No a->F.O a:=fun _ z=>z.elim
 have hO:∀a u,H a=some u->¬F.O a->¬(F.with p).O a:=fun a u ha n z=>n (O_ne z (yw ha hp))
 have k:∀a u,H a=some u->zi H p o a=some u:=fun a u ha=>by rw[zy (yw ha hp)];exact ha
 refine⟨⟨⟨r.heap.len,r.heap.inj,fun a ha=>?_,fun a ha=>?_,fun i a q=>let ⟨u,z,n⟩:=r.heap.btr i a q;⟨u,k a u z,n⟩,fun i c hc=>(r.heap.cell i c hc).imp id fun ⟨a,ha,q⟩=>⟨a,ha,q.ext e hM hO fun u hu=>k a u hu⟩⟩,
  r.slen,r.llen,r.linj,?_,r.lo,?_,Bu.mpr ⟨fun z=>n2 (.inl z),r.tn⟩,fun i x q=>?_⟩,fun h=>h.ext e hM hO⟩
 .by_cases z:a=p
  .subst z;exact n1
  .exact r.heap.off a (O_ne ha z)
 .by_cases z:a=p
  .subst z;exact⟨o,z6,ho⟩
  .obtain⟨u,q,n⟩:=r.heap.trk a (O_ne ha z);exact⟨u,k a u q,n⟩
 .intro a ha z
  rcases Ae.mp z with z|z
  .subst z;exact n2 (.inr (.inl ha))
  .exact r.lt a ha z
 .intro a ha z
  rcases Ae.mp ha with h|h
  .subst h;exact n2 (.inr (.inr z))
  .exact r.to a h z
 .obtain⟨v,h1,h2⟩:=r.slot i x q
  refine⟨v,h1,?_⟩
  cases x with
  |v x=>exact Rep.ext e hM hO h2
  |m c=>
   obtain⟨a,a1,a2,a3⟩:=h2;exact⟨a,a1,a2,a3.ext e hM hO fun u hu=>k a u hu⟩
def Out.val {x:V3} {v:V} (o:Out κ E (kE κ) F σ H Q (.ok (.v x) F.h)) (rel:Rel κ F σ H) (r:Rep κ F.β F.O H x v):Q v H:=o F.β v H Ext.refl ⟨rel,r⟩
inductive Rf where
 |x (v:V3)|s (i:Nat)
abbrev P3:=S3->H3->Res Rf
def pV (i:Nat):P3:=fun s h=>match s[i]? with
 |some (some (.v x))=>.ok (.x x) h
 |some (some (.m _))=>.ok (.s i) h
 |_=>.no
def pE (e:E3):P3:=fun s h=>(e s h).bind fun r h1=>match r.fz with
 |some x=>.ok (.x x) h1
 |none=>.no
def RfR (κ:Kx) (F:Fr) (H:Hp):Rf->V->Prop
 |.x y,v=>Rep κ F.β F.O H y v
 |.s i,v=> ∃a c,F.l[i]? =some (some a)/\v=.ref a/\F.s[i]? =some (some (.m c))/\CellR κ F.β F.O H c a
def kP (κ:Kx):Kd Rf V:=fun _ F σ H' f v=>Rel κ F σ H'/\RfR κ F H' f v
abbrev zj (κ:Kx) (E:XK) (d:P3):TE:=tOf κ E (kP κ) d
def km_P:BO (kP κ):=fun _ _ _ _ _ _ _ _ _ _ _ h=>h
theorem RfR.ext {β':AO} {h':H3} {f:Rf} {v:V} (rel:Rel κ F σ H) (e:Ext No F.β H β' H') (r:RfR κ F H f v):RfR κ (F.to β' h') H' f v:=by
 cases f with
 |x y=>exact Rep.ext0 e r
 |s i=>
  obtain⟨a,c,h1,h2,h3,h4⟩:=r;have ha:F.O a:= .inr (.inl (Ap h1));exact⟨a,c,h1,h2,h3,h4.ext e (fun _ z=>z.elim) (fun _ _ _ n=>n) fun o ho=>(e.keep a o ho (rel.heap.off a ha) fun z=>z).1⟩
def rdl (s:S3) (h:H3):Rf->Option (List V3)
 |.x (.lst xs)=>some xs
 |.x (.scr ns)=>some (ns.map .int)
 |.x (.loc n)=>match h[n]? with
  |some (.lst xs)=>some xs
  |_=>none
 |.s i=>match s[i]? with
  |some (some (.m (.lst xs)))=>some xs
  |_=>none
 |_=>none
def AB {f:Rf} {v:V} {xs:List V3} (rel:Rel κ F σ H) (r:RfR κ F H f v) (e:rdl F.s F.h f=some xs):∃a ys,v=.ref a/\SqL κ.K H a ys/\Reps κ F.β F.O H xs ys:=by
 cases f with
 |s i=>
  obtain⟨a,c,h1,h2,h3,h4⟩:=r;simp only[rdl,h3]at e;cases c<;>simp at e
  subst e;obtain⟨ys,h5,h6⟩:=h4;exact⟨a,ys,h2,.of h5,h6⟩
 |x y=>
  cases y<;>simp[rdl]at e
  case lst zs=>
   subst e;cases r with
   |lst h1 h2 h3 h4=>exact⟨_,_,rfl,.of h1,h4⟩
  case scr ns=>
   subst e;have g:∀l:List Int,Reps κ F.β F.O H (l.map V3.int) (l.map V.int):=fun l=>by
    induction l with
    |nil=>exact .nil
    |cons x r ih=>exact .cons (.int x) ih
   cases r with
   |scr h1 h2 h3=>exact⟨_,_,rfl,.inl (.inr ⟨_,h1⟩),g ns⟩
   |scrK h=>exact⟨_,_,rfl,.inr h,g ns⟩
  case loc n=>
   cases r with
   |loc h1 h2=>
    cases q:F.h[n]? with
    |none=>rw[q]at e;cases e
    |some c=>
     rw[q]at e;cases c<;>simp at e
     subst e
     rcases rel.heap.cell n _ q with z|⟨a,ha,ys,h5,h6⟩
     .cases z
     .exact⟨a,ys,h2 a ha,.of h5,h6⟩
end
abbrev A3:=S3->H3->Res (List Rf)
def aNil:A3:=fun _ h=>.ok [] h
def aCons (p:P3) (a:A3):A3:=fun s h=>(p s h).bind fun f h1=>(a s h1).bind fun fs h2=>.ok (f::fs) h2
def kA (κ:Kx):Kd (List Rf) (List V):=fun _ F σ H' fs vs=>Rel κ F σ H'/\Paired (RfR κ F H') fs vs
abbrev zB (κ:Kx) (E:XK) (d:A3):TA:=tOf κ E (kA κ) d
def vals3:List Rf->Option (List V3)
 | []=>some []
 |.x v::r=>(vals3 r).map (v:: ·)
 |.s _::_=>none
abbrev T3:=S3->H3->Res Bool
def kT (κ:Kx):Kd Bool Bool:=fun _ F σ H' b b'=>b'=b/\Rel κ F σ H'
abbrev zI (κ:Kx) (E:XK) (d:T3):TT:=tOf κ E (kT κ) d
section
variable {X:Cx} {κ:Kx} {E:XK} {F:Fr} {σ:St} {H H':Hp} {Q:VK} {p:Addr} {e a b:Expr} {pos:Pos} {i:Nat}
def km_A:BO (kA κ):=fun _ _ _ _ _ _ _ _ _ _ _ h=>h
def km_T:BO (kT κ):=fun _ _ _ _ _ _ _ _ _ _ _ h=>h
def ym {t t':TE} (h:PE X e t) (w:∀σ H Q,t' σ H Q->t σ H Q):PE X e t':=fun pins s σ H Q I q=>h pins s σ H Q I (w σ H Q q)
def PTw {t t':TT} (h:PT X e t) (w:∀σ H Q,t' σ H Q->t σ H Q):PT X e t':=fun pins s σ H Q I q=>h pins s σ H Q I (w σ H Q q)
def PWw {t t':TT} (h:PW X e t) (w:∀σ H Q,t' σ H Q->t σ H Q):PW X e t':=fun wh pins s σ H Q I q=>h wh pins s σ H Q I (w σ H Q q)
def PAw {es:List Expr} {t t':TA} (h:PA X es t) (w:∀σ H Q,t' σ H Q->t σ H Q):PA X es t':=fun pos pins s σ H Q I q=>h pos pins s σ H Q I (w σ H Q q)
def eV (i:Nat):E3:=fun s h=>match s[i]? with
 |some (some (.v x))=>.ok (.v x) h
 |_=>.no
def eC (x:V3):E3:=fun _ h=>.ok (.v x) h
abbrev kJ (n:Int):P3:=pE (eC (.int n))
def r_v (hv:PE X e (tVar i)):PE X e (zh κ E (eV i)):=ym hv fun σ H Q ⟨F,rel,o⟩=>by
 unfold eV at o;cases q:F.s[i]? with
 |none=>rw[q]at o;exact o.elim
 |some z=>
  rw[q]at o
  match z,q,o with
  |none,q,o=>exact o.elim
  |some (.m c),q,o=>exact o.elim
  |some (.v x),q,o=>
   obtain⟨v,h1,h2⟩:=rel.slot i _ q;exact⟨v,h1,o.val rel h2⟩
def rp_v (hv:PE X e (tVar i)):PE X e (zj κ E (pV i)):=ym hv fun σ H Q ⟨F,rel,o⟩=>by
 unfold pV at o;cases q:F.s[i]? with
 |none=>rw[q]at o;exact o.elim
 |some z=>
  rw[q]at o
  match z,q,o with
  |none,q,o=>exact o.elim
  |some (.m c),q,o=>
   obtain⟨v,h1,a,h2,h3,h4⟩:=rel.slot i _ q;exact⟨v,h1,o F.β v H Ext.refl ⟨rel,a,c,h2,h3,q,h4⟩⟩
  |some (.v x),q,o=>
   obtain⟨v,h1,h2⟩:=rel.slot i _ q;exact⟨v,h1,o F.β v H Ext.refl ⟨rel,h2⟩⟩
def za {d:E3} (h:PE X e (zh κ E d)):PE X e (zj κ E (pE d)):=ym h fun σ H Q ⟨F,rel,o⟩=>
 (zO (K:=kE κ) km_P rel o).mono fun v H1 ⟨β1,h1,x,e1,p1,o1⟩=>by
  cases z:x.fz with
  |none=>simp only[z]at o1;exact o1.elim
  |some y=>
   simp only[z]at o1;obtain⟨r1,r2⟩:=Post.fz p1 z;exact o1 β1 v H1 Ext.refl ⟨r1,r2⟩
def yq {x:V3} {v:V} (hc:PE X e (tC v)) (r:∀β O H,Rep κ β O H x v):PE X e (zh κ E (eC x)):=ym hc fun σ H Q ⟨F,rel,o⟩=>o.val rel (r _ _ _)
def ER {i j pos}:PE X (.Constant (.int i) j pos) (zh κ E (eC (.int i))):=yq Nj fun _ _ _=>.int i
def yc {b j pos}:PE X (.Constant (.bool b) j pos) (zh κ E (eC (.bl b))):=yq Nk fun _ _ _=>.bl b
def yT {x j pos}:PE X (.Constant (.str x) j pos) (zh κ E (eC (.str x))):=yq JB fun _ _ _=>.str x
def zg:PA X [] (zB κ E aNil):=PAw JQ fun σ H Q ⟨F,rel,o⟩=>o F.β [] H Ext.refl ⟨rel,.nil⟩
def zc {es:List Expr} {d:P3} {t:A3} (ha:PE X e (zj κ E d)) (hr:PA X es (zB κ E t)) (hs:SE X e es:=by rfl):PA X (e::es) (zB κ E (aCons d t)):=
 PAw (Hw ha hr hs) fun σ H Q ⟨F,rel,o⟩=>
  (zO (K:=kP κ) km_A rel o).mono fun v H1 ⟨β1,h1,x,e1,⟨r1,rf1⟩,o1⟩=>
   (zO (F:=F.to β1 h1) (K:=kA κ) km_A r1 o1).mono fun vs H2 ⟨β2,h2,fs,e2,⟨r2,rf2⟩,o2⟩=>o2 β2 (v::vs) H2 Ext.refl ⟨r2,.cons (RfR.ext (F:=F.to β1 h1) (β':=β2) (h':=h2) r1 e2 rf1) rf2⟩
theorem BP:∀{fs:List Rf} {vs:List V} {xs:List V3},Paired (RfR κ F H) fs vs->vals3 fs=some xs->Reps κ F.β F.O H xs vs
 |_,_,_,.nil,e=>by cases e;exact .nil
 |f::fs,v::vs,xs,.cons q t,e=>by
  cases f with
  |s i=>cases e
  |x y=>
   unfold vals3 at e;cases z:vals3 fs with
   |none=>rw[z]at e;cases e
   |some l=>rw[z]at e;cases e;exact .cons q (BP t z)
abbrev F2:=S3->H3->Rf->Rf->Option Vl
def opt (h:H3):Option Vl->Res Vl
 |some z=>.ok z h
 |none=>.no
def eOp (f:F2) (a b:P3):E3:=fun s h=>(a s h).bind fun x h1=>(b s h1).bind fun y h2=>opt h2 (f s h2 x y)
def OpSim (κ:Kx) (r:R2) (f:F2):Prop:=∀(F:Fr) (σ:St) (H:Hp) (x y:Rf) (z:Vl) (v w:V) (Q:VK),Rel κ F σ H->RfR κ F H x v->RfR κ F H y w->f F.s F.h x y=some z->
 (∀u H',Ext No F.β H F.β H'->Post κ (Nw H) F σ H' z u->Q u H')->r v w H Q
theorem Out.opt {o:Option Vl} {h:H3} (h0:F.h=h) (q:Out κ E (kE κ) F σ H Q (opt h o)):∃z,o=some z/\∀u H',Ext No F.β H F.β H'->Post κ (Nw H) F σ H' z u->Q u H':=by
 cases o with
 |none=>exact q.elim
 |some z=>subst h0;exact⟨z,rfl,fun u H' e p=>q F.β u H' e p⟩
def Gz {r:R2} {f:F2} {a b:P3} (hs:OpSim κ r f) (h:zh κ E (eOp f a b) σ H Q):tOp r (zj κ E a) (zj κ E b) σ H Q:=by
 obtain⟨F,rel,o⟩:=h
 refine (zO (K:=kP κ) zE rel o).mono fun v H1 ⟨β1,h1,f1,e1,⟨r1,rf1⟩,o1⟩=>?_
 refine (zO (F:=F.to β1 h1) (K:=kP κ) zE r1 o1).mono fun w H2 ⟨β2,h2,f2,e2,⟨r2,rf2⟩,o2⟩=>?_
 obtain⟨z,q,k⟩:=Out.opt (F:=F.to β2 h2) rfl o2;exact hs (F.to β2 h2) σ H2 f1 f2 z v w Q r2 (RfR.ext (F:=F.to β1 h1) (β':=β2) (h':=h2) r1 e2 rf1) rf2 q k
def zr {op:Operator} {r:R2} {f:F2} {da db:P3} (hs:OpSim κ r f) (ho:OpR X (binaryOp op) r) (ha:PE X a (zj κ E da)) (hb:PE X b (zj κ E db)):PE X (.BinOp a op b pos) (zh κ E (eOp f da db)):=ym (NH ho ha hb) fun _ _ _ h=>Gz hs h
def HI {op:CmpOp} {r:R2} {f:F2} {da db:P3} (hs:OpSim κ r f) (ho:OpR X (compareOp op) r) (hm:behindInMarks op b=false) (ha:PE X a (zj κ E da)) (hb:PE X b (zj κ E db)):PE X (.Compare a [op] [b] pos) (zh κ E (eOp f da db)):=ym (NM ho ha hb hm) fun _ _ _ h=>Gz hs h
def r_ix {r:R2} {f:F2} {da db:P3} (hs:OpSim κ r f) (ho:IxR X r) (hm:Gw b) (ha:PE X a (zj κ E da)) (hb:PE X b (zj κ E db)):PE X (.Subscript a b pos) (zh κ E (eOp f da db)):=ym (OA ho ha hb hm) fun _ _ _ h=>Gz hs h
abbrev FB:=S3->H3->List Rf->Option Vl
def eB (f:FB) (a:A3):E3:=fun s h=>(a s h).bind fun fs h1=>opt h1 (f s h1 fs)
def ql (κ:Kx) (r:List V->Hp->VK->Prop) (f:FB):Prop:=∀(F:Fr) (σ:St) (H:Hp) (fs:List Rf) (z:Vl) (vs:List V) (Q:VK),Rel κ F σ H->Paired (RfR κ F H) fs vs->f F.s F.h fs=some z->
 (∀u H',Ext No F.β H F.β H'->Post κ (Nw H) F σ H' z u->Q u H')->r vs H Q
def te_b {r:List V->Hp->VK->Prop} {f:FB} {a:A3} (hs:ql κ r f) (h:zh κ E (eB f a) σ H Q):tCB r (zB κ E a) σ H Q:=by
 obtain⟨F,rel,o⟩:=h
 refine (zO (K:=kA κ) zE rel o).mono fun vs H1 ⟨β1,h1,fs,e1,⟨r1,rf1⟩,o1⟩=>?_
 obtain⟨z,q,k⟩:=Out.opt (F:=F.to β1 h1) rfl o1;exact hs (F.to β1 h1) σ H1 fs z vs Q r1 rf1 q k
def PK {a:Addr} {u:HO} (hp:H p=none) (ha:H a=some u) (n: ¬F.O a): ¬(F.with p).O a:=fun z=>n (O_ne z (yw ha hp))
theorem Post.lst {xs:List V3} {ys:List V} (rel:Rel κ F σ H) (hp:H p=none) (r:Reps κ F.β F.O H xs ys):Post κ (Nw H) F σ (zi H p (.lst ys)) (.m (.lst xs)) (.ref p):=by
 obtain⟨r1,r2⟩:=rel.new (o:= .lst ys) hp;exact⟨p,rfl,r1,⟨ys,z6,r.ext (yE hp) (fun _ z=>z.elim) fun a u ha n=>PK hp ha n⟩,hp⟩
theorem Post.tup {xs:List V3} {ys:List V} {N:Addr->Prop} (rel:Rel κ F σ H) (hp:H p=none) (r:Reps κ F.β F.O H xs ys):Post κ N F σ (zi H p (.tup ys)) (.v (.tup xs)) (.ref p):=by
 obtain⟨n1,n2⟩:=rel.heap.off_new hp;exact⟨rel.laid hp,.tup z6 n1 n2 (r.ext0 (yE hp))⟩
def eTup (a:A3):E3:=fun s h=>(a s h).bind fun fs h1=>match vals3 fs with
 |some xs=>if xs.length<=sizeLine then .ok (.v (.tup xs)) h1 else .no
 |none=>.no
def eLst (a:A3):E3:=fun s h=>(a s h).bind fun fs h1=>match vals3 fs with
 |some xs=>if xs.length<=sizeLine then .ok (.m (.lst xs)) h1 else .no
 |none=>.no
def qk {es:List Expr} {x1} {t:A3} (h:PA X es (zB κ E t)):PE X (.Tuple es x1 pos) (zh κ E (eTup t)):=ym (Om h) fun σ H Q ⟨F,rel,o⟩=>
 (zO (K:=kA κ) zE rel o).mono fun vs H1 ⟨β1,h1,fs,e1,⟨r1,rf1⟩,o1⟩=>by
  cases q:vals3 fs with
  |none=>simp only[q]at o1;exact o1.elim
  |some xs=>
   simp only[q]at o1;have hr:=BP rf1 q
   by_cases hz:xs.length<=sizeLine
   .rw[Aa hz]at o1
    exact⟨by rw[<-hr.length];exact hz,fun p hp=>o1 β1 (.ref p) _ (yE hp) (Post.tup r1 hp hr)⟩
   .rw[Ac hz]at o1;exact o1.elim
def yD {es:List Expr} {t:A3} (h:PA X es (zB κ E t)):PE X (.List es pos) (zh κ E (eLst t)):=ym (On h) fun σ H Q ⟨F,rel,o⟩=>
 (zO (K:=kA κ) zE rel o).mono fun vs H1 ⟨β1,h1,fs,e1,⟨r1,rf1⟩,o1⟩=>by
  cases q:vals3 fs with
  |none=>simp only[q]at o1;exact o1.elim
  |some xs=>
   simp only[q]at o1;have hr:=BP rf1 q
   by_cases hz:xs.length<=sizeLine
   .rw[Aa hz]at o1
    exact⟨by rw[<-hr.length];exact hz,fun p hp=>o1 β1 (.ref p) _ (yE hp) (Post.lst r1 hp hr)⟩
   .rw[Ac hz]at o1;exact o1.elim
def tE (e:E3):T3:=fun s h=>(e s h).bind fun r h1=>match r with
 |.v (.bl b)=>.ok b h1
 |_=>.no
def ES {d:E3} {Q:Bool->Hp->Prop} (h:zI κ E (tE d) σ H Q):zh κ E d σ H (fun x H'=> ∃k,x=.bl k/\Q k H'):=by
 obtain⟨F,rel,o⟩:=h
 refine (zO (K:=kE κ) km_T rel o).mono fun v H1 ⟨β1,h1,x,e1,p1,o1⟩=>?_
 match x,p1,o1 with
 |.v (.bl b),p1,o1=>
  obtain⟨r1,r2⟩:=p1;cases r2;exact⟨b,rfl,o1 β1 b H1 Ext.refl ⟨rfl,r1⟩⟩
def z4 {op:CmpOp} {r:R2} {f:F2} {da db:P3} (hs:OpSim κ r f) (ho:OpR X (compareOp op) r) (hm:behindInMarks op b=false) (ha:PE X a (zj κ E da)) (hb:PE X b (zj κ E db)):PT X (.Compare a [op] [b] pos) (zI κ E (tE (eOp f da db))):=PTw (NN ho ha hb hm) fun _ _ _ h=>Gz hs (ES h)
def yO {d:E3} (h:PE X e (zh κ E d)) (he:∀whole,isTrue e X.env whole=(do let v <-whole;standAt e.pos;holding [v] (truthy v)):=by intro _;rfl):PT X e (zI κ E (tE d)):=PTw (Nl h he) fun _ _ _ q=>ES q
def tAnd3 (a b:T3):T3:=fun s h=>(a s h).bind fun c h1=>if c=true then b s h1 else .ok false h1
def tOr3 (a b:T3):T3:=fun s h=>(a s h).bind fun c h1=>if c=true then .ok true h1 else b s h1
def tNot3 (a:T3):T3:=fun s h=>(a s h).bind fun c h1=>.ok (!c) h1
def BY {t:T3} (ha:PT X a (zI κ E t)):PW X (.BoolOp .And [a] pos) (zI κ E t):=Nm ha
def AC {t:T3} (ha:PT X a (zI κ E t)):PW X (.BoolOp .Or [a] pos) (zI κ E t):=Nn ha
def BZ {t u:T3} {rest:List Expr} (ha:PT X a (zI κ E t)) (hb:PW X (.BoolOp .And (b::rest) pos) (zI κ E u)):PW X (.BoolOp .And (a::b::rest) pos) (zI κ E (tAnd3 t u)):=PWw (Np ha hb) fun σ H Q ⟨F,rel,o⟩=>
 (zO (K:=kT κ) km_T rel o).mono fun c H1 ⟨β1,h1,x,e1,⟨ec,r1⟩,o1⟩=>by
  subst ec;cases c with
  |true=>rw[Aa rfl]at o1 ⊢;exact⟨F.to β1 h1,r1,o1⟩
  |false=>rw[Ac A7]at o1 ⊢;exact o1 β1 false H1 Ext.refl ⟨rfl,r1⟩
def qM {t u:T3} {rest:List Expr} (ha:PT X a (zI κ E t)) (hb:PW X (.BoolOp .Or (b::rest) pos) (zI κ E u)):PW X (.BoolOp .Or (a::b::rest) pos) (zI κ E (tOr3 t u)):=PWw (Nq ha hb) fun σ H Q ⟨F,rel,o⟩=>
 (zO (K:=kT κ) km_T rel o).mono fun c H1 ⟨β1,h1,x,e1,⟨ec,r1⟩,o1⟩=>by
  subst ec;cases c with
  |true=>rw[Aa rfl]at o1 ⊢;exact o1 β1 true H1 Ext.refl ⟨rfl,r1⟩
  |false=>rw[Ac A7]at o1 ⊢;exact⟨F.to β1 h1,r1,o1⟩
def yY {t:T3} (ha:PT X a (zI κ E t)):PT X (.UnaryOp .Not a pos) (zI κ E (tNot3 t)):=PTw (Nr ha) fun σ H Q ⟨F,rel,o⟩=>
 (zO (K:=kT κ) km_T rel o).mono fun c H1 ⟨β1,h1,x,e1,⟨ec,r1⟩,o1⟩=>by
  subst ec;exact o1 β1 _ H1 Ext.refl ⟨rfl,r1⟩
def eAnd (a b:E3):E3:=fun s h=>(tE a s h).bind fun c h1=>if c=true then b s h1 else .ok (.v (.bl false)) h1
def eOr (a b:E3):E3:=fun s h=>(tE a s h).bind fun c h1=>if c=true then .ok (.v (.bl true)) h1 else b s h1
def eNot (a:E3):E3:=fun s h=>(tE a s h).bind fun c h1=>.ok (.v (.bl !c)) h1
def ET {d u:E3} {rest:List Expr} (ha:PE X a (zh κ E d)) (hb:PE X (.BoolOp .And (b::rest) pos) (zh κ E u)):PE X (.BoolOp .And (a::b::rest) pos) (zh κ E (eAnd d u)):=ym (Nx ha hb) fun σ H Q ⟨F,rel,o⟩=>by
 refine tOf.mono (ES (zO (a:=tE d) (K:=kT κ) zE rel o)) fun x H1 ⟨k,ex,β1,h1,c,e1,⟨ec,r1⟩,o1⟩=>⟨k,ex,?_⟩
 subst ec;cases k with
 |true=>rw[Aa rfl]at o1 ⊢;exact⟨F.to β1 h1,r1,o1⟩
 |false=>rw[Ac A7]at o1 ⊢;exact o1 β1 _ H1 Ext.refl ⟨r1,.bl false⟩
def PL {d:E3} (ha:PE X a (zh κ E d)):PE X (.UnaryOp .Not a pos) (zh κ E (eNot d)):=ym (Ny ha) fun σ H Q ⟨F,rel,o⟩=>by
 refine tOf.mono (ES (zO (a:=tE d) (K:=kT κ) zE rel o)) fun x H1 ⟨k,ex,β1,h1,c,e1,⟨ec,r1⟩,o1⟩=>⟨k,ex,?_⟩
 subst ec;exact o1 β1 _ H1 Ext.refl ⟨r1,.bl _⟩
def EU {op} {d:E3} (h:PE X a (zh κ E d)):PE X (.BoolOp op [a] pos) (zh κ E d):=Nv h
def eIf (t:T3) (a b:E3):E3:=fun s h=>(t s h).bind fun c h1=>if c=true then a s h1 else b s h1
end
inductive O3 where
 |nx (s:S3) (h:H3)|rt (r:Vl) (h:H3)|bk (s:S3) (h:H3)|ct (s:S3) (h:H3)|ex (x:X3) (h:H3)|no
abbrev D3:=S3->H3->O3
structure SExt (F:Fr) (H:Hp) (F':Fr) (H':Hp):Prop where
 ext:Ext (fun a=>some a∈F.l) F.β H F'.β H'
 lam:∀a,some a∈F'.l->some a∈F.l\/H a=none
 oi:F'.Oi=F.Oi
 tt:F'.T=[]
abbrev NwS (F:Fr) (H:Hp):Addr->Prop:=fun p=>some p∈F.l\/H p=none
def SOut (κ:Kx) (E:XK) (F:Fr) (H:Hp) (D:Ends):O3->Prop
 |.nx s' h'=> ∀F' σ' H',SExt F H F' H'->F'.s=s'->F'.h=h'->Rel κ F' σ' H'->D.nx σ' H'
 |.bk s' h'=> ∀F' σ' H',SExt F H F' H'->F'.s=s'->F'.h=h'->Rel κ F' σ' H'->D.bk σ' H'
 |.ct s' h'=> ∀F' σ' H',SExt F H F' H'->F'.s=s'->F'.h=h'->Rel κ F' σ' H'->D.ct σ' H'
 |.rt r h'=> ∀F' σ' v H',SExt F H F' H'->F'.h=h'->Post κ (NwS F H) F' σ' H' r v->D.rt v H'
 |.ex x h'=> ∀F' H',SExt F H F' H'->RelH κ F'.Oi F'.β h' H'->XOk κ E x F'.β F'.Oi H'
 |.no=>False
def zp (κ:Kx) (E:XK) (d:D3):TS:=fun D σ H=> ∃F,Rel κ F σ H/\F.T=[]/\SOut κ E F H D (d F.s F.h)
section
variable {X:Cx} {κ:Kx} {E:XK} {F F1 F2:Fr} {σ σ':St} {H H1 H2 H':Hp} {Q:VK} {r:R} {p:Addr} {e a b:Expr} {pos:Pos} {i:Nat} {D:Ends}
theorem SExt.refl (ht:F.T=[]):SExt F H F H:=⟨Ext.refl,fun _ h=>.inl h,rfl,ht⟩
theorem SExt.trans (a:SExt F H F1 H1) (b:SExt F1 H1 F2 H2):SExt F H F2 H2 where
 ext:=⟨fun x o h n m=>(by
   obtain⟨h1,n1⟩:=a.ext.keep x o h n m
   refine b.ext.keep x o h1 n1 fun z=>?_
   rcases a.lam x z with q|q
   .exact m q
   .rw[h]at q;cases q),Bi a.ext.len b.ext.len,fun i x hi h=>a.ext.bet i x hi (b.ext.bet i x (Ay hi a.ext.len) h),fun x o h=>let ⟨o1,h1⟩:=a.ext.there x o h;b.ext.there x o1 h1,K2 a.ext.there (fun i x hi h=>b.ext.bet i x hi h) a.ext.nwb b.ext.nwb⟩
 lam:=fun x h=>by
  rcases b.lam x h with q|q
  .exact a.lam x q
  .cases w:H x with
   |none=>exact .inr rfl
   |some o=>
    obtain⟨o',z⟩:=a.ext.there x o w;rw[q]at z;cases z
 oi:=b.oi.trans a.oi
 tt:=b.tt
def SExt.of0 {β':AO} {h':H3} (ht:F.T=[]) (e:Ext No F.β H β' H'):SExt F H (F.to β' h') H':=
 ⟨⟨fun x o h n _=>e.keep x o h n fun z=>z,e.len,e.bet,e.there,e.nwb⟩,fun _ h=>.inl h,rfl,ht⟩
theorem SOut.move {o:O3} (e:SExt F H F1 H1) (h:SOut κ E F H D o):SOut κ E F1 H1 D o:=by
 cases o with
 |nx s h'=>exact fun F2 σ2 H2 e2=>h F2 σ2 H2 (e.trans e2)
 |bk s h'=>exact fun F2 σ2 H2 e2=>h F2 σ2 H2 (e.trans e2)
 |ct s h'=>exact fun F2 σ2 H2 e2=>h F2 σ2 H2 (e.trans e2)
 |rt r h'=>exact fun F2 σ2 v H2 e2 eh q=>h F2 σ2 v H2 (e.trans e2) eh (q.imp fun p hp=>hp.elim (e.lam p) fun z=>.inr (e.ext.nw p z))
 |ex x h'=>exact fun F2 H2 e2=>h F2 H2 (e.trans e2)
 |no=>exact h
def yV {st:Stmt} {t t':TS} (h:PS X st t) (w:∀D σ H,t' D σ H->t D σ H):PS X st t':=fun pins s σ H D I q=>h pins s σ H D I (w D σ H q)
def PSsw {st:List Stmt} {t t':TS} (h:yj X st t) (w:∀D σ H,t' D σ H->t D σ H):yj X st t':=fun pins s σ H D I q=>h pins s σ H D I (w D σ H q)
def sSkip:D3:=fun s h=>.nx s h
def sSeq (a b:D3):D3:=fun s h=>match a s h with
 |.nx s1 h1=>b s1 h1
 |o=>o
def yd:yj X [] (zp κ E sSkip):=PSsw N0 fun D σ H ⟨F,rel,ht,o⟩=>o F σ H (.refl ht) rfl rfl rel
def zq {st:Stmt} {rest:List Stmt} {da db:D3} (h1:PS X st (zp κ E da)) (h2:yj X rest (zp κ E db)):yj X (st::rest) (zp κ E (sSeq da db)):=PSsw (JC h1 h2) fun D σ H ⟨F,rel,ht,o⟩=>by
 refine⟨F,rel,ht,?_⟩
 unfold sSeq at o;cases q:da F.s F.h with
 |nx s1 h1=>
  rw[q]at o;intro F' σ' H' e es eh r'
  refine⟨F',r',e.tt,?_⟩
  rw[es,eh];exact SOut.move e o
 |rt r h=>rw[q]at o;exact o
 |bk s h=>rw[q]at o;exact o
 |ct s h=>rw[q]at o;exact o
 |ex x h=>rw[q]at o;exact o
 |no=>rw[q]at o;exact o
def zo {st:Stmt} {da:D3} (h1:PS X st (zp κ E da)):yj X [st] (zp κ E da):=Hr h1
def qJ {α:Type} {l:List α} {i j:Nat} {x y:α} (h:(l.set i x)[j]? =some y):(i=j/\y=x)\/(i≠j/\l[j]? =some y):=by
 rw[Ce]at h
 by_cases e:i=j
 .rw[Aa e]at h
  by_cases e2:i<l.length
  .rw[Aa e2]at h;exact .inl ⟨e,(Option.some.inj h).symm⟩
  .rw[Ac e2]at h;cases h
 .rw[Ac e]at h;exact .inr ⟨e,h⟩
def qN {l:AO} {i:Nat} {x:Option Addr} {a:Addr} (h:some a∈l.set i x):(x=some a)\/(some a∈l/\∃j,j≠i/\l[j]? =some (some a)):=by
 obtain⟨j,hj⟩:=Bz h
 rcases qJ hj with ⟨_,e⟩|⟨n,e⟩
 .exact .inl e.symm
 .exact .inr ⟨Ap e,j,fun z=>n z.symm,e⟩
abbrev Fr.setV (F:Fr) (i:Nat) (x:V3):Fr:={F with s:=F.s.set i (some (.v x)),l:=F.l.set i none}
abbrev Fr.setM (F:Fr) (i:Nat) (c:C3) (p:Addr):Fr:={F with s:=F.s.set i (some (.m c)),l:=F.l.set i (some p)}
abbrev Fr.setN (F:Fr) (i:Nat):Fr:={F with s:=F.s.set i none,l:=F.l.set i none}
def EV {F:Fr} {i:Nat} {s:S3} {a:Addr} (h:({F with s:=s,l:=F.l.set i none}:Fr).O a):F.O a:=by
 rcases h with h|h|h
 .exact .inl h
 .rcases qN h with z|z
  .cases z
  .exact .inr (.inl z.1)
 .exact .inr (.inr h)
def Rel.setGen {F:Fr} {i:Nat} {s:S3} {σ':St} (rel:Rel κ F σ H) (hsl:s.length=F.s.length) (hσ:σ'.length=σ.length)
  (hslot:∀(j:Nat) x,s[j]? =some (some x)->(∃v,σ'[j]? =some (some v)/\SlotR κ ({F with s:=s,l:=F.l.set i none}:Fr) H j x v)):Rel κ {F with s:=s,l:=F.l.set i none} σ' H where
 heap:=rel.heap.sub fun a ha=>EV ha
 slen:=by show s.length=_;rw[hsl,hσ];exact rel.slen
 llen:=by show (F.l.set i none).length=s.length;rw[Bf,hsl];exact rel.llen
 linj:=fun j k a h1 h2=>by
  rcases qJ h1 with ⟨_,z⟩|⟨_,z1⟩
  .cases z
  .rcases qJ h2 with ⟨_,z⟩|⟨_,z2⟩
   .cases z
   .exact rel.linj j k a z1 z2
 lt:=fun a ha=>by
  rcases qN ha with z|z
  .cases z
  .exact rel.lt a z.1
 lo:=fun a ha=>by
  rcases qN ha with z|z
  .cases z
  .exact rel.lo a z.1
 to:=rel.to
 tn:=rel.tn
 slot:=hslot
def Rel.slotNe {F:Fr} {i j:Nat} {s:S3} {x:Vl} {v:V} (hn:i≠j) (q:SlotR κ F H j x v):SlotR κ ({F with s:=s,l:=F.l.set i none}:Fr) H j x v:=by
 cases x with
 |v x=>exact Rep.sub (fun a ha=>EV ha) q
 |m c=>
  obtain⟨a,h1,h2,h3⟩:=q
  refine⟨a,?_,h2,h3.sub fun a ha=>EV ha⟩
  show (F.l.set i none)[j]? =_;rw[Ce,Ac hn];exact h1
theorem Rel.setV {x:V3} {v:V} (rel:Rel κ F σ H) (hr:Rep κ F.β F.O H x v) (hi:i<F.s.length):Rel κ (F.setV i x) (σ.set i (some v)) H:=by
 refine rel.setGen (by rw[Bf]) (by rw[Bf]) fun j y hj=>?_
 rcases qJ hj with ⟨e,z⟩|⟨n,z⟩
 .subst e;cases z
  refine⟨v,?_,Rep.sub (fun a ha=>EV ha) hr⟩
  rw[Ce,Aa rfl,Aa (by rw[<-rel.slen];exact hi)]
 .obtain⟨w,h1,h2⟩:=rel.slot j y z
  exact⟨w,by rw[Ce,Ac n];exact h1,Rel.slotNe n h2⟩
theorem Rel.setN {i:Nat} (rel:Rel κ F σ H):Rel κ (F.setN i) σ H:=by
 refine rel.setGen (by rw[Bf]) rfl fun j y hj=>?_
 rcases qJ hj with ⟨e,z⟩|⟨n,z⟩
 .cases z
 .obtain⟨w,h1,h2⟩:=rel.slot j y z
  exact⟨w,h1,Rel.slotNe n h2⟩
def G0 {F:Fr} {i:Nat} {s:S3} {a p:Addr} (h:({F with s:=s,l:=F.l.set i (some p)}:Fr).O a):(F.with p).O a:=by
 rcases h with h|h|h
 .exact .inl (Am _ h)
 .rcases qN h with z|z
  .cases z;exact .inl Aj
  .exact .inr (.inl z.1)
 .exact .inr (.inr h)
theorem Rel.setM {c:C3} (rel:Rel κ (F.with p) σ H) (hr:CellR κ F.β (F.with p).O H c p) (hi:i<F.s.length):Rel κ (F.setM i c p) (σ.set i (some (.ref p))) H where
 heap:=rel.heap.sub fun a ha=>G0 ha
 slen:=by show (F.s.set i _).length=_;rw[Bf,Bf];exact rel.slen
 llen:=by show (F.l.set i _).length=(F.s.set i _).length;rw[Bf,Bf];exact rel.llen
 linj:=fun j k a h1 h2=>by
  rcases qJ h1 with ⟨e1,z1⟩|⟨n1,z1⟩<;>rcases qJ h2 with ⟨e2,z2⟩|⟨n2,z2⟩
  .lia
  .cases z1;exact absurd Aj (rel.lt p (Ap z2))
  .cases z2;exact absurd Aj (rel.lt p (Ap z1))
  .exact rel.linj j k a z1 z2
 lt:=fun a ha z=>by
  rcases qN ha with q|q
  .cases q;exact (Bu.mp rel.tn).1 z
  .exact rel.lt a q.1 (Am _ z)
 lo:=fun a ha=>by
  rcases qN ha with q|q
  .cases q;exact rel.to p Aj
  .exact rel.lo a q.1
 to:=fun a ha=>rel.to a (Am _ ha)
 tn:=(Bu.mp rel.tn).2
 slot:=fun j y hj=>by
  rcases qJ hj with ⟨e,z⟩|⟨n,z⟩
  .subst e;cases z
   refine⟨.ref p,?_,p,?_,rfl,hr.sub fun a ha=>G0 ha⟩
   .rw[Ce,Aa rfl,Aa (by rw[<-rel.slen];exact hi)]
   .show (F.l.set i _)[i]? =_
    rw[Ce,Aa rfl,Aa (by have h:=rel.llen;show i<F.l.length;rw[show F.l.length=F.s.length from h];exact hi)]
  .obtain⟨w,h1,h2⟩:=rel.slot j y z
   refine⟨w,by rw[Ce,Ac n];exact h1,?_⟩
   cases y with
   |v x=>exact Rep.sub (fun a ha=>G0 ha) h2
   |m c=>
    obtain⟨a,q1,q2,q3⟩:=h2
    refine⟨a,?_,q2,q3.sub fun a ha=>G0 ha⟩
    show (F.l.set i _)[j]? =_;rw[Ce,Ac n];exact q1
def SExt.setN {s:S3} (ht:F.T=[]):SExt F H ({F with s:=s,l:=F.l.set i none}:Fr) H:=
 ⟨Ext.refl,fun a h=>by
  rcases qN h with z|z
  .cases z
  .exact .inl z.1,rfl,ht⟩
def Res.bindS {α:Type} (r:Res α) (k:α->H3->O3):O3:=match r with
 |.ok r h=>k r h
 |.ex x h=>.ex x h
 |.no=>.no
theorem bindS {α ω:Type} {K:Kd α ω} {a:S3->H3->Res α} {k:α->H3->O3} (rel:Rel κ F σ H) (ht:F.T=[]) (o:SOut κ E F H D ((a F.s F.h).bindS k)):
  tOf κ E K a σ H (fun w H1=> ∃β1 h1 x,Ext No F.β H β1 H1/\K H (F.to β1 h1) σ H1 x w/\SOut κ E F H D (k x h1)):=by
 refine⟨F,rel,?_⟩
 cases q:a F.s F.h with
 |no=>rw[q]at o;exact o
 |ex x h1=>rw[q]at o;exact fun β' H' e r=>o (F.to β' h1) H' (SExt.of0 ht e) r
 |ok r h1=>rw[q]at o;exact fun β1 v H1 e p=>⟨β1,h1,r,e,p,o⟩
def sSet (i:Nat) (e:E3):D3:=fun s h=>(e s h).bindS fun r h1=>if i<s.length then .nx (s.set i (some r)) h1 else .no
def K4 {d:E3} (h:zp κ E (sSet i d) D σ H):zh κ E d σ H (fun v H1=>D.nx (σ.set i (some v)) H1):=by
 obtain⟨F,rel,ht,o⟩:=h
 refine (bindS (K:=kE κ) rel ht o).mono fun v H1 ⟨β1,h1,r,e1,p1,o⟩=>?_
 by_cases hi:i<F.s.length
 .rw[Aa hi]at o
  cases r with
  |v x=>
   obtain⟨r1,r2⟩:=p1;exact o ((F.to β1 h1).setV i x) _ H1 ((SExt.of0 (h':=h1) ht e1).trans (SExt.setN ht)) rfl rfl (r1.setV r2 hi)
  |m c=>
   obtain⟨p,rfl,r1,r2,hp⟩:=p1
   refine o ((F.to β1 h1).setM i c p) _ H1 ?_ rfl rfl (r1.setM r2 hi)
   exact⟨(SExt.of0 (h':=h1) ht e1).ext,fun a ha=>by
    rcases qN ha with z|z
    .cases z;exact .inr hp
    .exact .inl z.1,rfl,ht⟩
 .rw[Ac hi]at o;exact o.elim
def PM {x:Str} {pos':Pos} {d:E3} (hN:X.N.Nodup) (hi:X.N[i]? =some x) (hx:qH X.env.scope x) (he:PE X e (zh κ E d)) (hs:swapsWith e (some (.Name x pos')) pos.line X.env=pure false:=by rfl)
 (hf:X.fn x=true\/X.env.scope.names.lookup x=some .local:=by first|exact .inl rfl|exact .inr rfl|assumption):PS X (.Assign [.Name x pos'] e pos) (zp κ E (sSet i d)):=yV (N5 hN hi hx he hs hf) fun D σ H h=>K4 h
def sExp (e:E3):D3:=fun s h=>(e s h).bindS fun _ h1=>.nx s h1
def PN {d:E3} (he:PE X e (zh κ E d)) (hs:swapsWith e none pos.line X.env=pure false:=by rfl):PS X (.Expr e pos) (zp κ E (sExp d)):=yV (EE he hs) fun D σ H ⟨F,rel,ht,o⟩=>
 (bindS (K:=kE κ) rel ht o).mono fun v H1 ⟨β1,h1,r,e1,p1,o⟩=>by
  have r1:Rel κ (F.to β1 h1) σ H1:=by
   cases r with
   |v x=>exact p1.1
   |m c=>obtain⟨p,_,r1,_⟩:=p1;exact Rel.drop r1
  exact o (F.to β1 h1) σ H1 (SExt.of0 ht e1) rfl rfl r1
def sRet (e:E3):D3:=fun s h=>(e s h).bindS fun r h1=>.rt r h1
def zR {d:E3} (he:PE X e (zh κ E d)):PS X (.Return (some e) pos) (zp κ E (sRet d)):=yV (JE he) fun D σ H ⟨F,rel,ht,o⟩=>
 (bindS (K:=kE κ) rel ht o).mono fun v H1 ⟨β1,h1,r,e1,p1,o⟩=>o (F.to β1 h1) σ v H1 (SExt.of0 ht e1) rfl (p1.imp fun p hp=>.inr hp)
def sRetN:D3:=fun _ h=>.rt (.v .non) h
def Rel.take {c:C3} (rel:Rel κ F σ H) (hl:F.l[i]? =some (some p)):Rel κ ((F.setN i).with p) σ H:=by
 have r1:=rel.setN (i:=i);have ho:∀a,((F.setN i).with p).O a->F.O a:=fun a ha=>by
  rcases ha with z|z
  .rcases Ae.mp z with z|z
   .subst z;exact .inr (.inl (Ap hl))
   .exact .inl z
  .rcases z with z|z
   .rcases qN z with w|w
    .cases w
    .exact .inr (.inl w.1)
   .exact .inr (.inr z)
 have hb:∀a,some a∈F.l.set i none->a≠p:=fun a ha z=>by
  subst z
  rcases qN ha with w|⟨_,j,hj,w⟩
  .cases w
  .exact hj (rel.linj j i a w hl)
 refine⟨rel.heap.sub ho,r1.slen,r1.llen,r1.linj,fun a ha z=>?_,r1.lo,fun a ha z=>?_,Bu.mpr ⟨fun z=>rel.lt p (Ap hl) z,rel.tn⟩,fun j y hj=>?_⟩
 .rcases Ae.mp z with z|z
  .exact hb a ha z
  .exact r1.lt a ha z
 .rcases Ae.mp ha with h|h
  .subst h;exact rel.lo a (Ap hl) z
  .exact rel.to a h z
 .rcases qJ hj with ⟨_,z⟩|⟨n,z⟩
  .cases z
  .obtain⟨w,h1,h2⟩:=rel.slot j y z
   refine⟨w,h1,?_⟩
   cases y with
   |v x=>exact Rep.sub ho h2
   |m c=>
    obtain⟨a,q1,q2,q3⟩:=h2
    refine⟨a,?_,q2,q3.sub ho⟩
    show (F.l.set i none)[j]? =_;rw[Ce,Ac n];exact q1
def PP {a:Addr} (hl:F.l[i]? =some (some p)) (ha:((F.setN i).with p).O a):F.O a:=by
 rcases ha with z|z
 .rcases Ae.mp z with z|z
  .subst z;exact .inr (.inl (Ap hl))
  .exact .inl z
 .rcases z with z|z
  .rcases qN z with w|w
   .cases w
   .exact .inr (.inl w.1)
  .exact .inr (.inr z)
def sRetS (i:Nat):D3:=fun s h=>match s[i]? with
 |some (some r)=>.rt r h
 |_=>.no
def qB (hv:PE X e (tVar i)):PS X (.Return (some e) pos) (zp κ E (sRetS i)):=yV (JE hv) fun D σ H ⟨F,rel,ht,o⟩=>by
 unfold sRetS at o;cases q:F.s[i]? with
 |none=>rw[q]at o;exact o.elim
 |some z=>
  rw[q]at o
  match z,q,o with
  |none,q,o=>exact o.elim
  |some (.v x),q,o=>
   obtain⟨v,h1,h2⟩:=rel.slot i _ q;exact⟨v,h1,o F σ v H (.refl ht) rfl ⟨rel,h2⟩⟩
  |some (.m c),q,o=>
   obtain⟨v,h1,a,h2,h3,h4⟩:=rel.slot i _ q;subst h3;exact⟨_,h1,o (F.setN i) σ (.ref a) H (SExt.setN ht) rfl ⟨a,rfl,Rel.take (c:=c) rel h2,h4.sub fun b hb=>PP h2 hb,.inl (Ap h2)⟩⟩
def sFz (i:Nat):D3:=fun s h=>match s[i]? with
 |some (some (.m c))=>match c.fz with
  |some x=>.nx (s.set i (some (.v x))) h
  |none=>.no
 |_=>.nx s h
def PQ {d:D3} (h:zp κ E (sSeq (sFz i) d) D σ H):zp κ E d D σ H:=by
 obtain⟨F,rel,ht,o⟩:=h;unfold sSeq sFz at o;have same:(match (F.s[i]? :Option (Option Vl)) with|some (some (.m c))=>False|_=>True)->SOut κ E F H D (d F.s F.h)->zp κ E d D σ H:=fun _ o=>⟨F,rel,ht,o⟩
 cases q:F.s[i]? with
 |none=>rw[q]at o same;exact same trivial o
 |some z=>
  rw[q]at o same
  match z,q,o,same with
  |none,q,o,same=>exact same trivial o
  |some (.v x),q,o,same=>exact same trivial o
  |some (.m c),q,o,same=>
   cases z:c.fz with
   |none=>simp only[z]at o;exact o.elim
   |some x=>
    simp only[z]at o;obtain⟨v,h1,a,h2,h3,h4⟩:=rel.slot i _ q;subst h3;have hi:i<F.s.length:=(An.mp q).1;have rt:=Rel.take (c:=c) rel h2;have rep:Rep κ F.β (F.setN i).O H x (.ref a):=(h4.sub (O':=(F.setN i).O) fun b hb=>EV hb).fz z rt.offp rt.apart
    have r2:=(rel.setN (i:=i)).setV (i:=i) (x:=x) (v:= .ref a) rep (by show i<(F.s.set i none).length;rw[Bf];exact hi)
    have e1:(F.setN i).setV i x=F.setV i x:=by
     show ({F with s:=(F.s.set i none).set i _,l:=(F.l.set i none).set i none}:Fr)={F with s:=F.s.set i _,l:=F.l.set i none}
     rw[List.set_set,List.set_set]
    have e2:σ.set i (some (.ref a))=σ:=by
     apply List.ext_getElem?;intro j
     rw[Ce]
     by_cases hj:i=j
     .subst hj;rw[Aa rfl,Aa (by rw[<-rel.slen];exact hi),h1]
     .rw[Ac hj]
    rw[e1,e2]at r2;exact⟨F.setV i x,r2,ht,SOut.move (SExt.setN ht) o⟩
def yv {sts:List Stmt} {d:D3} (i:Nat) (h:yj X sts (zp κ E d)):yj X sts (zp κ E (sSeq (sFz i) d)):=PSsw h fun D σ H q=>PQ q
def sIf (t:T3) (a b:D3):D3:=fun s h=>(t s h).bindS fun c h1=>if c=true then a s h1 else b s h1
def zZ {c:Expr} {sa sb:List Stmt} {t:T3} {da db:D3} (hc:PT X c (zI κ E t)) (ha:yj X sa (zp κ E da)) (hb:yj X sb (zp κ E db)):PS X (.If c sa sb pos) (zp κ E (sIf t da db)):=yV (N1 hc ha hb) fun D σ H ⟨F,rel,ht,o⟩=>
 (bindS (K:=kT κ) rel ht o).mono fun c H1 ⟨β1,h1,x,e1,⟨ec,r1⟩,o1⟩=>by
  subst ec;have mv:=SExt.of0 (h':=h1) ht e1;cases c with
  |true=>rw[Aa rfl]at o1 ⊢;exact⟨F.to β1 h1,r1,ht,SOut.move mv o1⟩
  |false=>rw[Ac A7]at o1 ⊢;exact⟨F.to β1 h1,r1,ht,SOut.move mv o1⟩
def sNever:D3:=fun _ _=>.no
def PR {st:Stmt}:PS X st (zp κ E sNever):=yV N3 fun D σ H ⟨F,rel,ht,o⟩=>o
abbrev G3:=V3->S3->Option S3
abbrev Gs3:=List V3->S3->Option S3
def gN (i:Nat):G3:=fun x s=>if i<s.length then some (s.set i (some (.v x))) else none
def gsNil:Gs3:=fun xs s=>match xs with
 | []=>some s
 |_=>none
def gsCons (g:G3) (gs:Gs3):Gs3:=fun xs s=>match xs with
 |x::r=>(g x s).bind fun s1=>gs r s1
 | []=>none
def gT (gs:Gs3):G3:=fun x s=>match x with
 |.tup xs=>gs xs s
 |_=>none
def gL (gs:Gs3):G3:=fun x s=>match x with
 |.lst xs=>gs xs s
 |_=>none
def yx (κ:Kx) (g:G3):TG:=fun v σ H Q=> ∃F x s',Rel κ F σ H/\F.T=[]/\Rep κ F.β F.O H x v/\g x F.s=some s'/\∀F' σ',SExt F H F' H->F'.β=F.β->F'.s=s'->F'.h=F.h->Rel κ F' σ' H->Q σ' H
def G1 (κ:Kx) (g:Gs3):qS:=fun vs σ H Q=> ∃F xs s',Rel κ F σ H/\F.T=[]/\Reps κ F.β F.O H xs vs/\g xs F.s=some s'/\∀F' σ',SExt F H F' H->F'.β=F.β->F'.s=s'->F'.h=F.h->Rel κ F' σ' H->Q σ' H
def PGw {tg:Expr} {t t':TG} (h:PG X tg t) (w:∀v σ H Q,t' v σ H Q->t v σ H Q):PG X tg t':=fun pins s σ H v u Q I r q=>h pins s σ H v u Q I r (w v σ H Q q)
def PGsw {tg:List Expr} {t t':qS} (h:qA X tg t) (w:∀v σ H Q,t' v σ H Q->t v σ H Q):qA X tg t':=fun pins s σ H v u Q I r q=>h pins s σ H v u Q I r (w v σ H Q q)
def K5 {a:Addr} {o:HO} (e:SExt F H F' H') (ha:H a=some o) (n: ¬F.O a): ¬F'.O a:=fun z=>by
 rcases z with z|z|z
 .rw[e.tt]at z;cases z
 .rcases e.lam a z with w|w
  .exact n (.inr (.inl w))
  .rw[ha]at w;cases w
 .rw[e.oi]at z;exact n (.inr (.inr z))
def Rep.sext {x:V3} {v:V} (e:SExt F H F' H') (r:Rep κ F.β F.O H x v):Rep κ F'.β F'.O H' x v:=r.ext e.ext (fun a h=>.inr (.inl h)) fun a o ha n=>K5 e ha n
def Reps.sext {x:List V3} {v:List V} (e:SExt F H F' H') (r:Reps κ F.β F.O H x v):Reps κ F'.β F'.O H' x v:=r.ext e.ext (fun a h=>.inr (.inl h)) fun a o ha n=>K5 e ha n
def HJ {tg:Expr} (h:PG X tg (EF i)):PG X tg (yx κ (gN i)):=PGw h fun v σ H Q ⟨F,x,s',rel,ht,r,e,k⟩=>by
 unfold gN at e
 by_cases hi:i<F.s.length
 .rw[Aa hi]at e;cases e
  exact k (F.setV i x) _ (SExt.setN ht) rfl rfl rfl (rel.setV r hi)
 .rw[Ac hi]at e;cases e
def AU:qA X [] (G1 κ gsNil):=PGsw N4 fun v σ H Q ⟨F,xs,s',rel,ht,r,e,k⟩=>by
 cases r with
 |nil=>cases e;exact⟨rfl,k F σ (.refl ht) rfl rfl rfl rel⟩
 |cons _ _=>cases e
theorem yu {es:List Expr} {g:G3} {gs:Gs3} (h1:PG X e (yx κ g)) (h2:qA X es (G1 κ gs)) (hh:∀{t:TG} {u:qS},PG X e t->qA X es u->qA X (e::es) (JF t u)):qA X (e::es) (G1 κ (gsCons g gs)):=PGsw (hh h1 h2) fun v σ H Q ⟨F,xs,s',rel,ht,r,e,k⟩=>by
 cases r with
 |nil=>cases e
 | @cons x y xs ys a b=>
  cases q:g x F.s with
  |none=>simp only[gsCons,q]at e;cases e
  |some s1=>
   simp only[gsCons,q]at e
   refine⟨y,ys,rfl,F,x,s1,rel,ht,a,q,fun F1 σ1 e1 b1 s1' h1 r1=>?_⟩
   have e:gs xs s1=some s':=e
   refine⟨F1,xs,s',r1,e1.tt,b.sext e1,by rw[s1'];exact e,fun F2 σ2 e2 b2 s2' h2 r2=>?_⟩
   exact k F2 σ2 (e1.trans e2) (b2.trans b1) s2' (h2.trans h1) r2
def AV {tg:Expr} {gs:Gs3} {n:Nat} (h:PG X tg (gTup X.K n (G1 κ gs))) (hn:∀xs s s',gs xs s=some s'->xs.length=n):PG X tg (yx κ (gT gs)):=PGw h fun v σ H Q ⟨F,x,s',rel,ht,r,e,k⟩=>by
 unfold gT at e;cases x<;>first|cases e|skip
 cases r with
 |tup h1 h2 h3 h4=>exact⟨_,_,rfl,.of h1,by rw[<-h4.length];exact hn _ _ _ e,F,_,s',rel,ht,h4,e,k⟩
def sAsg (g:G3) (e:E3):D3:=fun s h=>(e s h).bindS fun r h1=>match r.fz with
 |some x=>match g x s with
  |some s1=>.nx s1 h1
  |none=>.no
 |none=>.no
end
structure It3 where
 its:List V3
 xs:List V3
 ok:H3->Prop
def IR (κ:Kx) (it:It3) (vs:List V) (J:It):Prop:=∀(F:Fr) (σ:St) (H:Hp),Rel κ F σ H->Reps κ F.β F.O H it.its vs->it.ok F.h->∀i:Nat,
 (i<it.xs.length->J.go i H/\∀x H',J.yld i H x H'->∃x3,it.xs[i]? =some x3/\Ext No F.β H F.β H'/\Rel κ F σ H'/\Rep κ F.β F.O H' x3 x)/\(it.xs.length<=i->J.stop i H)
abbrev I3:=S3->H3->Res It3
def kI (κ:Kx):Kd It3 It:=fun _ F σ H' it J=>Rel κ F σ H'/\∃vs,Reps κ F.β F.O H' it.its vs/\IR κ it vs J
abbrev yg (κ:Kx) (E:XK) (d:I3):TI:=tOf κ E (kI κ) d
open Classical in
def zJ (ok:H3->Prop) (g:G3) (b:D3):List V3->S3->H3->O3
 | [],s,h=>if ok h then .nx s h else .no
 |x::r,s,h=>if ok h then match g x s with
  |none=>.no
  |some s1=>match b s1 h with
   |.nx s2 h2=>zJ ok g b r s2 h2
   |.ct s2 h2=>zJ ok g b r s2 h2
   |.bk s2 h2=>.nx s2 h2
   |o=>o
  else .no
def zt (it:I3) (g:G3) (b:D3):D3:=fun s h=>(it s h).bindS fun I h1=>zJ I.ok g b I.xs s h1
open Classical in
section
variable {X:Cx} {κ:Kx} {E:XK} {F F1 F2 F':Fr} {σ σ':St} {H H1 H2 H':Hp} {Q:VK} {p:Addr} {e a b:Expr} {pos:Pos} {i:Nat} {D:Ends}
def km_I:BO (kI κ):=fun _ _ _ _ _ _ _ _ _ _ _ h=>h
theorem PU {it:I3} {g:G3} {b:D3} (h:zp κ E (zt it g b) D σ H):tFor (yg κ E it) (yx κ g) (zp κ E b) D σ H:=by
 obtain⟨F,rel,ht,o⟩:=h
 refine (bindS (K:=kI κ) rel ht o).mono fun J H1 ⟨β1,h1,I,e1,⟨r1,vs,rv,ir⟩,o1⟩=>?_
 refine⟨fun i m σ H=>m=I.xs.length-i/\i<=I.xs.length/\∃Fk,Rel κ Fk σ H/\Fk.T=[]/\Reps κ Fk.β Fk.O H I.its vs/\SOut κ E Fk H D (zJ I.ok g b (I.xs.drop i) Fk.s Fk.h),⟨_,rfl,Bw _,F.to β1 h1,r1,ht,rv,SOut.move (SExt.of0 (h':=h1) ht e1) o1⟩,?_⟩
 rintro i m σ' H' ⟨rfl,hi,Fk,rk,tk,vk,ok⟩
 by_cases hok:I.ok Fk.h
 case neg=>
  exfalso
  cases q:I.xs.drop i with
  |nil=>rw[q]at ok;unfold zJ at ok;rw[Ac hok]at ok;exact ok
  |cons x r=>rw[q]at ok;unfold zJ at ok;rw[Ac hok]at ok;exact ok
 obtain⟨i1,i2⟩:=ir Fk σ' H' rk vk hok i
 by_cases hlt:i<I.xs.length
 .obtain⟨go,yl⟩:=i1 hlt
  refine .inr ⟨go,fun σ2 H2=> ∃F2,Rel κ F2 σ2 H2/\F2.T=[]/\Reps κ F2.β F2.O H2 I.its vs/\SOut κ E F2 H2 D (zJ I.ok g b (I.xs.drop (i+1)) F2.s F2.h),fun σ2 H2 n2=>⟨_,by lia,rfl,hlt,n2⟩,fun x H'' y=>?_⟩
  obtain⟨x3,ex,ey,ry,rp⟩:=yl x H'' y;have hd:I.xs.drop i=x3::I.xs.drop (i+1):=by
   rw[E9 hlt]
   congr 1
   rw[zH hlt]at ex;exact Option.some.inj ex
  rw[hd]at ok;have ok:=SOut.move (SExt.of0 (h':=Fk.h) tk ey) ok;unfold zJ at ok;rw[Aa hok]at ok;cases w:g x3 Fk.s with
  |none=>simp only[w]at ok;exact ok.elim
  |some s1=>
   simp only[w]at ok
   refine⟨Fk,x3,s1,ry,tk,rp,w,fun F3 σ3 e3 b3 s3 h3 r3=>?_⟩
   refine⟨F3,r3,e3.tt,?_⟩
   rw[s3,h3];have ok:=SOut.move e3 ok;have ev:Reps κ F3.β F3.O H'' I.its vs:=(vk.ext0 ey).sext e3;cases q:b s1 Fk.h with
   |nx s2 h2=>simp only[q]at ok;exact fun F4 σ4 H4 e4 s4 h4 r4=>⟨F4,r4,e4.tt,ev.sext e4,by rw[s4,h4];exact SOut.move e4 ok⟩
   |ct s2 h2=>simp only[q]at ok;exact fun F4 σ4 H4 e4 s4 h4 r4=>⟨F4,r4,e4.tt,ev.sext e4,by rw[s4,h4];exact SOut.move e4 ok⟩
   |bk s2 h2=>simp only[q]at ok;exact ok
   |rt r h2=>simp only[q]at ok;exact ok
   |ex x h2=>simp only[q]at ok;exact ok
   |no=>simp only[q]at ok;exact ok
 .have hi:i=I.xs.length:=by lia
  subst hi;rw[Cf]at ok;unfold zJ at ok;rw[Aa hok]at ok;exact .inl ⟨i2 (Ag _),ok Fk σ' H' (.refl tk) rfl rfl rk⟩
def PV {tg iter:Expr} {body:List Stmt} {it:I3} {g:G3} {b:D3} (hp:PassesOwn (model X.prog X.w) X.A X.env X.xe) (hc:X.calm=true) (hi:PI X tg iter (yg κ E it)) (hg:PG X tg (yx κ g)) (hb:yj X body (zp κ E b))
 (hs:∀x,foldedSetIterable iter X.env x=pure x:=by intro _;rfl):PS X (.For tg iter body [] pos) (zp κ E (zt it g b)):=yV (NG hp hc hi hg hb hs) fun D σ H h=>PU h
def yn (h:H3):V3->Option (List V3×(H3->Prop))
 |.lst xs=>some (xs,fun _=>True)
 |.scr ns=>some (ns.map .int,fun _=>True)
 |.loc n=>match h[n]? with
  |some (.lst xs)=>some (xs,fun h=>h[n]? =some (.lst xs))
  |_=>none
 |_=>none
def PX {F:Fr} {σ:St} {H:Hp} {x:V3} {xs:List V3} {v:V} (rel:Rel κ F σ H) (r:Rep κ F.β F.O H x v) (e:rdl F.s F.h (.x x)=some xs):∃a ys,v=.ref a/\SqL κ.K H a ys/\Reps κ F.β F.O H xs ys:=AB (f:= .x x) rel r e
def AW {h:H3} {x:V3} {xs:List V3} {ok:H3->Prop} (e:yn h x=some (xs,ok)):ok h/\∀s h',ok h'->rdl s h' (.x x)=some xs:=by
 cases x<;>simp[yn]at e
 case lst zs=>obtain⟨rfl,rfl⟩:=e;exact⟨trivial,fun _ _ _=>rfl⟩
 case scr ns=>obtain⟨rfl,rfl⟩:=e;exact⟨trivial,fun _ _ _=>rfl⟩
 case loc n=>
  cases q:h[n]? with
  |none=>rw[q]at e;cases e
  |some c=>
   rw[q]at e;cases c<;>simp at e
   obtain⟨rfl,rfl⟩:=e;exact⟨q,fun s h' hh=>by simp only[rdl,hh]⟩
def AD {F:Fr} {σ:St} {H:Hp} {h:H3} {x:V3} {xs:List V3} {ok:H3->Prop} {v:V} (e:yn h x=some (xs,ok)) (rel:Rel κ F σ H) (r:Rep κ F.β F.O H x v) (hk:ok F.h):∃a ys,v=.ref a/\SqL κ.K H a ys/\Reps κ F.β F.O H xs ys:=PX rel r ((AW e).2 _ _ hk)
def PIw {tg iter:Expr} {t t':TI} (h:PI X tg iter t) (w:∀σ H R,t' σ H R->t σ H R):PI X tg iter t':=fun pins s σ H R I q=>h pins s σ H R I (w σ H R q)
def iL (p:P3):I3:=fun s h=>(p s h).bind fun f h1=>match f with
 |.x x=>match yn h1 x with
  |some (xs,ok)=>.ok ⟨[x],xs,ok⟩ h1
  |none=>.no
 |_=>.no
def PY {tg l:Expr} {d:P3} (hK:X.K=κ.K) (hl:PE X l (zj κ E d)):PI X tg l (yg κ E (iL d)):=PIw (N9 hl) fun σ H R ⟨F,rel,o⟩=>
 (zO (K:=kP κ) km_I rel o).mono fun v H1 ⟨β1,h1,f,e1,⟨r1,rf⟩,o1⟩=>by
  rw[hK]
  match f,rf,o1 with
  |.s _,rf,o1=>exact o1.elim
  |.x x,rf,o1=>
   cases q:yn h1 x with
   |none=>simp only[q]at o1;exact o1.elim
   |some w=>
    obtain⟨xs,ok⟩:=w;simp only[q]at o1;have rf:Rep κ β1 F.O H1 x v:=rf;obtain⟨a,ys,ev,sq,rs⟩:=AD (F:=F.to β1 h1) q r1 rf (AW q).1;subst ev
    refine⟨a,rfl,⟨ys,sq⟩,o1 β1 _ H1 Ext.refl ⟨r1,[.ref a],.cons rf .nil,fun F' σ' H' rel' r' hk i=>?_⟩⟩
    cases r' with
    |cons r'' _=>
     obtain⟨a',ys',ev',sq',rs'⟩:=AD q rel' r'' hk;cases ev'
     refine⟨fun hi=>⟨?_,fun y H' ⟨e,yl⟩=>?_⟩,fun hi=>⟨ys',sq',by rw[<-rs'.length];exact hi⟩⟩
     .obtain⟨y,hy,_⟩:=rs'.get (i:=i) (zH hi)
      exact⟨ys',y,sq',hy⟩
     .subst e
      obtain⟨x3,h1,h2⟩:=rs'.get' (yl ys' sq');exact⟨x3,h1,Ext.refl,rel',h2⟩
end
end L3
namespace L3
open PySem PySem.Spec PyProof.Rows L2
abbrev F3:=List V3->H3->Res Vl
def start3 (n:Nat) (vs:List V3):S3:=vs.map (fun x=>some (.v x))++List.replicate (n-vs.length) none
def O3.res:O3->Res Vl
 |.nx _ h=>.ok (.v .non) h
 |.rt r h=>.ok r h
 |.ex x h=>.ex x h
 |_=>.no
def fun3 (k n:Nat) (b:D3):F3:=fun vs h=>if vs.length=k then (b (start3 n vs) h).res else .no
def PZ (κ:Kx) (N:Addr->Prop) (O:Addr->Prop) (β:AO) (h:H3) (H:Hp):Vl->V->Prop
 |.v x,v=>RelH κ O β h H/\Rep κ β O H x v
 |.m c,v=> ∃p,v=.ref p/\RelH κ (fun a=>a=p\/O a) β h H/\CellR κ β (fun a=>a=p\/O a) H c p/\N p/\¬O p
def FOut (κ:Kx) (E:XK) (O:Addr->Prop) (β:AO) (H:Hp) (Q:VK):Res Vl->Prop
 |.ok r h'=> ∀β' v H',Ext No β H β' H'->PZ κ (Nw H) O β' h' H' r v->Q v H'
 |.ex x h'=> ∀β' H',Ext No β H β' H'->RelH κ O β' h' H'->XOk κ E x β' O H'
 |.no=>False
def zm (κ:Kx) (k:Nat) (f:F3):Sp:=fun vs H Q E=> ∃O β vs3 h3,vs.length=k/\RelH κ O β h3 H/\Reps κ β O H vs3 vs/\FOut κ E O β H Q (f vs3 h3)
section
variable {X:Cx} {κ:Kx} {E:XK} {F F1 F2 F':Fr} {σ σ':L2.St} {H H1 H2 H':Hp} {Q:VK} {p:Addr} {e a b o:Expr} {pos apos np:Pos} {i:Nat} {D:Ends}
def qQ {a:Addr} {n:Nat}:some a∉List.replicate n (none:Option Addr):=fun h=>by cases (List.mem_replicate.mp h).2
def Qa {n:Nat} {vs3:List V3} {i:Nat} {x:Vl} (h:(start3 n vs3)[i]? =some (some x)):∃y,vs3[i]? =some y/\x=.v y:=by
 unfold start3 at h
 by_cases hi:i<vs3.length
 .rw[A8 (by simpa using hi),A9]at h
  cases q:vs3[i]? with
  |none=>rw[q]at h;cases h
  |some y=>rw[q]at h;cases h;exact⟨y,rfl,rfl⟩
 .rw[Bo (by simpa using hi)]at h
  have:=List.mem_replicate.mp (Ap h);cases this.2
def Qb {O:Addr->Prop} {β:AO} {vs3:List V3} {vs:List V} {h3:H3} {N:List Str} (rh:RelH κ O β h3 H) (rv:Reps κ β O H vs3 vs) (hN:vs.length<=N.length):
  Rel κ ⟨O,[],β,List.replicate N.length none,start3 N.length vs3,h3⟩ (L2.start N vs) H:=by
 have hO:∀a,(⟨O,[],β,List.replicate N.length none,start3 N.length vs3,h3⟩:Fr).O a->O a:=fun a ha=>by
  rcases ha with z|z|z
  .cases z
  .exact absurd z qQ
  .exact z
 have hl:=rv.length
 refine⟨rh.sub hO,?_,?_,fun i j a h=>?_,fun a ha=>absurd ha qQ,fun a ha=>absurd ha qQ,fun a ha=>(by cases ha),Eh,fun i x hx=>?_⟩
 .show (start3 N.length vs3).length=_
  unfold start3 L2.start;simp only[Av,Ah,Dd];lia
 .show (List.replicate N.length (none:Option Addr)).length=(start3 N.length vs3).length
  unfold start3;simp only[Av,Ah,Dd];lia
 .exact absurd (Ap h) qQ
 .obtain⟨y,hy,rfl⟩:=Qa hx
  obtain⟨v,hv,r⟩:=rv.get hy
  refine⟨v,?_,Rep.sub hO r⟩
  unfold L2.start;have hi:i<vs.length:=(An.mp hv).1;rw[A8 (by simpa using hi),A9,hv];rfl
def zY {P:Program} {w:World} {K:FG} {mg:Str->Option Value} {base:Heap} {x qual:Str} {st:Stmt} {f:Addr} {fd:FuncData} {N ps:List Str} {k:Nat} {b:D3} (Fn:Fun K x qual st f fd) (S:FnScope N ps (zC st))
  (hb:∀(cdv:Value) (A:Around) (outer:List Env) (s:Shared) (H:Hp) (E:XK),Room k (A.deeper (envOfC qual (zC st) s.heap.objs.size f cdv))->
   yj (yk (XT P w) P w K mg base N qual (zC st) f cdv A outer s H E) (BN st) (zp κ E b)):FnOk P w K mg base (XT P w) (k+1) f fd ps (zm κ ps.length (fun3 ps.length N.length b)):=by
 refine Fn.okX S (fun vs H Q E h=>?_) fun cdv A outer s H vs Q E hr h=>?_
 .obtain⟨_,_,_,_,h,_⟩:=h;exact h
 .obtain⟨O,β,vs3,h3,hl,rh,rv,o⟩:=h
  have hpl:ps.length<=N.length:=by have:=congrArg List.length S.pre;rw[Bc]at this;lia
  have rel:=Qb (N:=N) rh rv (by lia)
  refine⟨zp κ E b,hb cdv A outer s H E hr,_,rel,rfl,?_⟩
  unfold fun3 at o;rw[Aa (by rw[rv.length];exact hl)]at o
  generalize hF:(⟨O,[],β,List.replicate N.length none,start3 N.length vs3,h3⟩:Fr)=F0 at rel;have e0:F0.s=start3 N.length vs3/\F0.h=h3/\F0.β=β/\F0.Oi=O/\∀a,some a∉F0.l:=by subst hF;exact⟨rfl,rfl,rfl,rfl,fun a=>qQ⟩
  obtain⟨es,eh,eb,eo,el⟩:=e0;rw[es,eh];have ext:∀{F':Fr} {H':Hp},SExt F0 H F' H'->Ext No β H F'.β H':=fun {F' H'} se=>⟨fun a u h n _=>se.ext.keep a u h (by rw[eb];exact n) (el a),by rw[<-eb];exact se.ext.len,fun i a hi h=>by
   have:=se.ext.bet i a (by rw[eb];exact hi) h
   rw[eb]at this;exact this,se.ext.there,fun i a hi h=>se.ext.nwb i a (by rw[eb];exact hi) h⟩
  have hO:∀{F':Fr} {H':Hp},SExt F0 H F' H'->∀a,O a->F'.O a:=fun {F' H'} se a ha=>.inr (.inr (by rw[se.oi,eo];exact ha))
  cases q:b (start3 N.length vs3) h3 with
  |nx s1 h1=>
   rw[q]at o;exact fun F' σ' H' se _ h' r'=>o F'.β .non H' (ext se) ⟨by rw[<-h'];exact r'.heap.sub (hO se),.non⟩
  |rt r h1=>
   rw[q]at o;intro F' σ' v H' se h' p
   refine o F'.β v H' (ext se) ?_
   cases r with
   |v x=>exact⟨by rw[<-h'];exact p.1.heap.sub (hO se),Rep.sub (hO se) p.2⟩
   |m c=>
    obtain⟨p,h1,h2,h3',h4⟩:=p;have hs:∀a,a=p\/O a->(F'.with p).O a:=fun a ha=>ha.elim (fun z=>.inl (by rw[z];exact Aj)) fun z=>Fr.O_with (hO se a z)
    refine⟨p,h1,by rw[<-h'];exact h2.heap.sub hs,h3'.sub hs,h4.elim (fun z=>absurd z (el p)) id,fun z=>h2.apart (hO se p z)⟩
  |bk s1 h1=>rw[q]at o;exact (show False from o).elim
  |ct s1 h1=>rw[q]at o;exact (show False from o).elim
  |no=>rw[q]at o;exact o
  |ex x h1=>
   rw[q]at o;intro F' H' se r';have z:=o F'.β H' (ext se) (by rw[se.oi,eo]at r';exact r')
   rw[se.oi,eo];exact z
def Rel.nextNew {β':AO} {h':H3} (r:Rel κ F σ H) (e:Ext No F.β H β' H') (rh:RelH κ (fun a=>a=p\/F.O a) β' h' H') (hp:H p=none):Rel κ ((F.to β' h').with p) σ H':=by
 have n2: ¬F.O p:=(r.heap.off_new hp).2;have ho:∀a,((F.to β' h').with p).O a->a=p\/F.O a:=fun a ha=>by
  rcases ha with z|z
  .rcases Ae.mp z with z|z
   .exact .inl z
   .exact .inr (.inl z)
  .exact .inr (.inr z)
 have hO:∀a u,H a=some u->¬F.O a->¬((F.to β' h').with p).O a:=fun a u ha n z=>(ho a z).elim (fun w=>by subst w;rw[hp]at ha;cases ha) n
 refine⟨rh.sub ho,r.slen,r.llen,r.linj,fun a ha z=>?_,r.lo,fun a ha z=>?_,Bu.mpr ⟨fun z=>n2 (.inl z),r.tn⟩,fun i x q=>?_⟩
 .rcases Ae.mp z with z|z
  .subst z;exact n2 (.inr (.inl ha))
  .exact r.lt a ha z
 .rcases Ae.mp ha with h|h
  .subst h;exact n2 (.inr (.inr z))
  .exact r.to a h z
 .obtain⟨v,h1,h2⟩:=r.slot i x q
  refine⟨v,h1,?_⟩
  cases x with
  |v x=>exact Rep.ext e (fun _ z=>z.elim) hO h2
  |m c=>
   obtain⟨a,a1,a2,a3⟩:=h2;have ha:F.O a:= .inr (.inl (Ap a1));exact⟨a,a1,a2,a3.ext e (fun _ z=>z.elim) hO fun u hu=>(e.keep a u hu (r.heap.off a ha) fun z=>z).1⟩
def FOut.of {r:Res Vl} (rel:Rel κ F σ H) (o:Out κ E (kE κ) F σ H Q r):FOut κ E F.O F.β H Q r:=by
 cases r with
 |no=>exact o
 |ex x h'=>exact fun β' H' e r'=>(o β' H' e (r'.sub fun a ha=>.inr (.inr ha))).sub fun a ha=>.inr (.inr ha)
 |ok r h'=>
  intro β' v H' e q
  refine o β' v H' e ?_
  cases r with
  |v x=>exact⟨rel.next e q.1,q.2⟩
  |m c=>
   obtain⟨p,h1,h2,h3,h4,h5⟩:=q;have ho:∀a,((F.to β' h').with p).O a->a=p\/F.O a:=fun a ha=>by
    rcases ha with z|z
    .rcases Ae.mp z with z|z
     .exact .inl z
     .exact .inr (.inl z)
    .exact .inr (.inr z)
   exact⟨p,h1,rel.nextNew e h2 h4,h3.sub ho,h4⟩
def eCall (f:F3) (a:A3):E3:=fun s h=>(a s h).bind fun fs h1=>match vals3 fs with
 |some vs=>f vs h1
 |none=>.no
def zn (f:F3) (k:Nat):Prop:=∀vs h,vs.length≠k->f vs h=.no
def zx {k n:Nat} {b:D3}:zn (fun3 k n b) k:=fun vs h e=>Ac e
def Qc {f:F3} {t:A3} {k:Nat} (hf:zn f k) (h:zh κ E (eCall f t) σ H Q):EK (zm κ k f) [] E (zB κ E t) σ H Q:=by
 obtain⟨F,rel,o⟩:=h
 refine (zO (K:=kA κ) zE rel o).mono fun vs H1 ⟨β1,h1,fs,e1,⟨r1,rf1⟩,o1⟩=>?_
 cases q:vals3 fs with
 |none=>simp only[q]at o1;exact o1.elim
 |some xs=>
  simp only[q]at o1;have hr:=BP rf1 q;rw[Bt]
  refine⟨F.O,β1,xs,h1,?_,r1.heap,hr,FOut.of r1 o1⟩
  refine Fb fun n=>?_
  rw[hf xs h1 (by rw[hr.length];exact n)]at o1
  exact o1
def HK {x:Str} {es:List Expr} {f:F3} {t:A3} {k:Nat} {fa:Addr} {fd:FuncData} {ps:List Str} {n:Nat} (hf:zn f n) (Fk:FnOk X.prog X.w X.K X.mg X.base (XT X.prog X.w) k fa fd ps (zm κ n f)) (hr:Room k X.A) (hg:Gl X x) (hm:X.mg x=some (.ref fa)) (hk:PySem.W.keepIn X.K (.ref fa)=true) (hb:Binds X.K fd ps []) (hx:qC (XT X.prog X.w) X E)
 (ha:PA X (e::es) (zB κ E t)) (hdb:(x==("__debug__" :Str))=false:=by decide) (he:SE X e es:=by rfl) (hpl:BA X pos es:=by rfl):
 PE X (.Call (.Name x np) (e::es) [] pos) (zh κ E (eCall f t)):=ym (Oo Fk hr hg hm hk hb .nil hx ha hdb he hpl) fun _ _ _ h=>Qc hf h
def K6:qC (XT X.prog X.w) X E0:=fun pins σ H s e s' I h=>by
 obtain⟨_,_,_,_,_,_,_,_,_,_,_,_,_,_,_,_,q⟩:=h;exact q.elim
end
section
variable {X:Cx} {κ:Kx} {E:XK} {F:Fr} {σ:L2.St} {H H':Hp} {Q:VK} {p:Addr} {pos:Pos} {i:Nat}
def oI (g:Int->Int->Option V3):F2:=fun _ _ x y=>match x,y with
 |.x (.int i),.x (.int j)=>(g i j).map .v
 |_,_=>none
def K7 {g:Int->Int->Option V3} {s:S3} {h:H3} {x y:Rf} {z:Vl} (e:oI g s h x y=some z):∃i j w,x=.x (.int i)/\y=.x (.int j)/\g i j=some w/\z=.v w:=by
 unfold oI at e
 split at e
 .rename_i i j
  cases q:g i j with
  |none=>rw[q]at e;cases e
  |some w=>rw[q]at e;cases e;exact⟨i,j,w,rfl,rfl,q,rfl⟩
 .cases e
def DJ {gv:Int->Int->V} {g:Int->Int->Option V3} (hg:∀i j z,g i j=some z->∀β O H,Rep κ β O H z (gv i j)):OpSim κ (yS gv) (oI g):=fun F σ H x y z v w Q rel rx ry e k=>by
 obtain⟨i,j,u,rfl,rfl,q,rfl⟩:=K7 e;cases (show Rep κ F.β F.O H (.int i) v from rx)
 cases (show Rep κ F.β F.O H (.int j) w from ry)
 exact⟨i,j,rfl,rfl,k _ H Ext.refl ⟨rel,hg i j u q _ _ _⟩⟩
def K8 {C:Int->Int->Prop} {gv:Int->Int->V} {g:Int->Int->Option V3} (hg:∀i j z,g i j=some z->C i j/\∀β O H,Rep κ β O H z (gv i j)):OpSim κ (rI C gv) (oI g):=fun F σ H x y z v w Q rel rx ry e k=>by
 obtain⟨i,j,u,rfl,rfl,q,rfl⟩:=K7 e;cases (show Rep κ F.β F.O H (.int i) v from rx)
 cases (show Rep κ F.β F.O H (.int j) w from ry)
 exact⟨i,j,rfl,rfl,(hg i j u q).1,k _ H Ext.refl ⟨rel,(hg i j u q).2 _ _ _⟩⟩
instance {i j:Int}:Decidable (CMul i j):=inferInstanceAs (Decidable (_\/_))
instance {i j:Int}:Decidable (CDiv i j):=inferInstanceAs (Decidable (_/\_))
instance {i j:Int}:Decidable (CPow i j):=inferInstanceAs (Decidable (_/\_))
def BQ:F2:=oI fun i j=>some (.int (i+j))
def ya:F2:=oI fun i j=>some (.int (i-j))
def HL:F2:=oI fun i j=>if CMul i j then some (.int (i*j)) else none
def oDiv:F2:=oI fun i j=>if CDiv i j then some (.int (i / j)) else none
def zK:F2:=oI fun i j=>if 0<j then some (.int (i%j)) else none
def oPow:F2:=oI fun i j=>if CPow i j then some (.int (i ^ j.toNat)) else none
def oShr:F2:=oI fun i j=>if 0<=j then some (.int (i / 2 ^ j.toNat)) else none
def Qd:F2:=oI fun i j=>some (.int (Builtin.bitAnd i j))
def oLt:F2:=oI fun i j=>some (.bl (decide (i<j)))
def qd:F2:=oI fun i j=>some (.bl (decide (i<=j)))
def oGt:F2:=oI fun i j=>some (.bl (decide (j<i)))
def oGe:F2:=oI fun i j=>some (.bl (decide (j<=i)))
def sim_addI:OpSim κ (yS fun i j=>.int (i+j)) BQ:=DJ fun i j z e=>by cases e;exact fun _ _ _=>.int _
def qR:OpSim κ (yS fun i j=>.int (i-j)) ya:=DJ fun i j z e=>by cases e;exact fun _ _ _=>.int _
def DK:OpSim κ (yS fun i j=>.bl (decide (i<j))) oLt:=DJ fun i j z e=>by cases e;exact fun _ _ _=>.bl _
def qm:OpSim κ (yS fun i j=>.bl (decide (i<=j))) qd:=DJ fun i j z e=>by cases e;exact fun _ _ _=>.bl _
def G2:OpSim κ (yS fun i j=>.bl (decide (j<i))) oGt:=DJ fun i j z e=>by cases e;exact fun _ _ _=>.bl _
def Qe:OpSim κ (yS fun i j=>.bl (decide (j<=i))) oGe:=DJ fun i j z e=>by cases e;exact fun _ _ _=>.bl _
def qr {c:Prop} [Decidable c] {α:Type} {x z:α} (e:(if c then some x else none)=some z):c/\x=z:=by
 by_cases h:c
 .rw[Aa h]at e;exact⟨h,Option.some.inj e⟩
 .rw[Ac h]at e;cases e
def sim_mulI:OpSim κ (rI CMul fun i j=>.int (i*j)) HL:=K8 fun i j z e=>by obtain⟨h,rfl⟩:=qr e;exact⟨h,fun _ _ _=>.int _⟩
def yJ:OpSim κ (rI (fun _ j=>0<j) fun i j=>.int (i%j)) zK:=K8 fun i j z e=>by obtain⟨h,rfl⟩:=qr e;exact⟨h,fun _ _ _=>.int _⟩
def qe (f g:F2):F2:=fun s h x y=>match f s h x y with
 |some z=>some z
 |none=>g s h x y
def OpSim.or {r r':R2} {f g:F2} (hf:OpSim κ r f) (hg:OpSim κ r' g):OpSim κ (fun x y H Q=>r x y H Q\/r' x y H Q) (qe f g):=fun F σ H x y z v w Q rel rx ry e k=>by
 unfold qe at e;cases q:f F.s F.h x y with
 |some u=>rw[q]at e;cases e;exact .inl (hf F σ H x y _ v w Q rel rx ry q k)
 |none=>rw[q]at e;exact .inr (hg F σ H x y z v w Q rel rx ry e k)
def EW:F2:=fun _ _ x y=>match x,y with
 |.x (.str i),.x (.str j)=>if i.length+j.length<=sizeLine then some (.v (.str (i++j))) else none
 |_,_=>none
def sim_addS:OpSim κ (fun x y H Q=> ∃i j,x=.str i/\y=.str j/\i.length+j.length<=sizeLine/\Q (.str (i++j)) H) EW:=fun F σ H x y z v w Q rel rx ry e k=>by
 unfold EW at e
 split at e
 .rename_i i j
  obtain⟨h,rfl⟩:=qr e;cases (show Rep κ F.β F.O H (.str i) v from rx)
  cases (show Rep κ F.β F.O H (.str j) w from ry)
  exact⟨i,j,rfl,rfl,h,k _ H Ext.refl ⟨rel,.str _⟩⟩
 .cases e
def rdm (s:S3) (h:H3):Rf->Option (List V3)
 |.x (.scr _)=>none
 |f=>rdl s h f
def CA {f:Rf} {v:V} {xs:List V3} (rel:Rel κ F σ H) (r:RfR κ F H f v) (e:rdm F.s F.h f=some xs):∃a ys,v=.ref a/\H a=some (.lst ys)/\Reps κ F.β F.O H xs ys:=by
 cases f with
 |s i=>
  have e:rdl F.s F.h (.s i)=some xs:=e;obtain⟨a,c,h1,h2,h3,h4⟩:=r;simp only[rdl,h3]at e;cases c<;>simp at e
  subst e;obtain⟨ys,h5,h6⟩:=h4;exact⟨a,ys,h2,h5,h6⟩
 |x y=>
  cases y<;>simp[rdm,rdl]at e
  case lst zs=>
   subst e;cases r with
   |lst h1 h2 h3 h4=>exact⟨_,_,rfl,h1,h4⟩
  case loc n=>
   cases r with
   |loc h1 h2=>
    cases q:F.h[n]? with
    |none=>rw[q]at e;cases e
    |some c=>
     rw[q]at e;cases c<;>simp at e
     subst e
     rcases rel.heap.cell n _ q with z|⟨a,ha,ys,h5,h6⟩
     .cases z
     .exact⟨a,ys,h2 a ha,h5,h6⟩
def oCat:F2:=fun s h x y=>match rdm s h x,rdm s h y with
 |some xs,some ys=>if xs.length+ys.length<=sizeLine then some (.m (.lst (xs++ys))) else none
 |_,_=>none
def Qf:OpSim κ rCat oCat:=fun F σ H x y z v w Q rel rx ry e k=>by
 unfold oCat at e;cases q1:rdm F.s F.h x with
 |none=>rw[q1]at e;cases e
 |some xs=>
  cases q2:rdm F.s F.h y with
  |none=>rw[q1,q2]at e;cases e
  |some ys=>
   rw[q1,q2]at e;obtain⟨h,rfl⟩:=qr e;obtain⟨a,us,rfl,ha,ra⟩:=CA rel rx q1;obtain⟨b,ws,rfl,hb,rb⟩:=CA rel ry q2;exact⟨a,b,us,ws,rfl,rfl,ha,hb,by rw[<-ra.length,<-rb.length];exact h,fun p hp=>k _ _ (yE hp) (Post.lst rel hp (ra.append rb))⟩
def zl:F2:=qe BQ (qe EW oCat)
def zU:OpR X (binaryOp .Add) (fun x y H Q=>(yS fun i j=>.int (i+j)) x y H Q\/((fun x y H Q=> ∃i j,x=.str i/\y=.str j/\i.length+j.length<=sizeLine/\Q (.str (i++j)) H) x y H Q\/rCat x y H Q)):=op_add.or (op_add_str.or OL)
def zT:OpSim κ (fun x y H Q=>(yS fun i j=>.int (i+j)) x y H Q\/((fun x y H Q=> ∃i j,x=.str i/\y=.str j/\i.length+j.length<=sizeLine/\Q (.str (i++j)) H) x y H Q\/rCat x y H Q)) zl:=sim_addI.or (sim_addS.or Qf)
def oRep:F2:=fun s h x y=>match rdm s h x,y with
 |some xs,.x (.int k)=>if -(2 ^ 63)<=k/\k<2 ^ 63/\xs.length*k.toNat<=sizeLine then some (.m (.lst (List.replicate k.toNat xs).flatten)) else none
 |_,_=>none
def Qg:OpSim κ rRep oRep:=fun F σ H x y z v w Q rel rx ry e k=>by
 unfold oRep at e
 split at e
 .rename_i xs n q
  obtain⟨⟨h1,h2,h3⟩,rfl⟩:=qr e;obtain⟨a,us,rfl,ha,ra⟩:=CA rel rx q;cases (show Rep κ F.β F.O H (.int n) w from ry)
  exact⟨a,n,us,rfl,rfl,ha,h1,h2,by rw[<-ra.length];exact h3,fun p hp=>k _ _ (yE hp) (Post.lst rel hp (ra.rep _))⟩
 .cases e
def oMul:F2:=qe HL oRep
def EX:OpR X (binaryOp .Mult) (fun x y H Q=>(rI CMul fun i j=>.int (i*j)) x y H Q\/rRep x y H Q):=op_mul.or ON
def EY:OpSim κ (fun x y H Q=>(rI CMul fun i j=>.int (i*j)) x y H Q\/rRep x y H Q) oMul:=sim_mulI.or Qg
theorem Reps.atI {xs:List V3} {ys:List V} {i:Int} {x:V3} (r:Reps κ F.β F.O H xs ys) (e:atI xs i=some x):∃y,L2.atI ys i=some y/\Rep κ F.β F.O H x y:=by
 unfold L2.atI at e ⊢;rw[<-r.length];cases q:yA xs.length i with
 |none=>rw[q]at e;cases e
 |some j=>
  rw[q]at e;exact r.get e
def oIxL:F2:=fun s h x y=>match y with
 |.x (.int i)=>match rdl s h x with
  |some xs=>(atI xs i).map .v
  |none=>none
 |_=>none
def oIxT:F2:=fun _ _ x y=>match x,y with
 |.x (.tup xs),.x (.int i)=>(atI xs i).map .v
 |_,_=>none
def oIxS:F2:=fun _ _ x y=>match x,y with
 |.x (.str z),.x (.int i)=>if z.length<=sizeLine then (atI z.cps.toList i).map fun c=>.v (.str ⟨#[c]⟩) else none
 |_,_=>none
def sim_ixL:OpSim κ (rIxL κ.K) oIxL:=fun F σ H x y z v w Q rel rx ry e k=>by
 unfold oIxL at e
 split at e
 .rename_i i
  cases (show Rep κ F.β F.O H (.int i) w from ry)
  cases q:rdl F.s F.h x with
  |none=>rw[q]at e;cases e
  |some xs=>
   rw[q]at e;cases q2:atI xs i with
   |none=>simp only[q2]at e;cases e
   |some u=>
    simp only[q2]at e;cases e;obtain⟨a,us,rfl,sq,ra⟩:=AB rel rx q;obtain⟨y,hy,ry'⟩:=Reps.atI ra q2;exact⟨a,us,i,y,rfl,rfl,sq,hy,k _ H Ext.refl ⟨rel,ry'⟩⟩
 .cases e
def sim_ixT:OpSim κ (rIxT κ.K) oIxT:=fun F σ H x y z v w Q rel rx ry e k=>by
 unfold oIxT at e
 split at e
 .rename_i xs i
  cases (show Rep κ F.β F.O H (.int i) w from ry)
  cases q2:atI xs i with
  |none=>rw[q2]at e;cases e
  |some u=>
   rw[q2]at e;cases e;cases (show Rep κ F.β F.O H (.tup xs) v from rx) with
   |tup h1 h2 h3 h4=>
    obtain⟨y,hy,ry'⟩:=Reps.atI h4 q2;exact⟨_,_,i,y,rfl,rfl,.of h1,hy,k _ H Ext.refl ⟨rel,ry'⟩⟩
 .cases e
def Qh:OpSim κ rIxS oIxS:=fun F σ H x y z v w Q rel rx ry e k=>by
 unfold oIxS at e
 split at e
 .rename_i zz i
  cases (show Rep κ F.β F.O H (.int i) w from ry)
  cases (show Rep κ F.β F.O H (.str zz) v from rx)
  obtain⟨h,e⟩:zz.length<=sizeLine/\((atI zz.cps.toList i).map fun c=>Vl.v (.str ⟨#[c]⟩))=some z:=by
   by_cases h:zz.length<=sizeLine
   .rw[Aa h]at e;exact⟨h,e⟩
   .rw[Ac h]at e;cases e
  cases q2:atI zz.cps.toList i with
  |none=>rw[q2]at e;cases e
  |some c=>
   rw[q2]at e;cases e;exact⟨zz,i,c,rfl,rfl,h,q2,k _ H Ext.refl ⟨rel,.str _⟩⟩
 .cases e
def zk:F2:=qe oIxT (qe oIxL oIxS)
def K9 (hK:X.K=κ.K):IxR X (fun x y H Q=>rIxT κ.K x y H Q\/(fun x y H Q=>rIxL κ.K x y H Q\/rIxS x y H Q) x y H Q):=by
 rw[<-hK];exact ix_tup.or (ix_list.or OB)
def KA:OpSim κ (fun x y H Q=>rIxT κ.K x y H Q\/(fun x y H Q=>rIxL κ.K x y H Q\/rIxS x y H Q) x y H Q) zk:=sim_ixT.or (sim_ixL.or Qh)
def oIsN (neg:Bool):F2:=fun _ _ x y=>match x,y with
 |.x .non,.x .non=>some (.v (.bl (!neg)))
 |.x (.loc _),_=>none
 |.x _,.x .non=>some (.v (.bl neg))
 |.s _,.x .non=>some (.v (.bl neg))
 |_,_=>none
end
inductive K3 where
 |f (a:V)|l (xs:List V3)|t (xs:List V3)|o
def z7 (h:H3):V3->K3
 |.non=>.f .non
 |.bl b=>.f (.bl b)
 |.int i=>.f (.int i)
 |.str x=>.f (.str x)
 |.lst xs=>.l xs
 |.tup xs=>.t xs
 |.loc n=>match h[n]? with
  |some (.lst xs)=>.l xs
  |_=>.o
 |_=>.o
def yf (f:V3->V3->Option Bool):List V3->List V3->Option Bool
 |x::xs,y::ys=>match f x y,yf f xs ys with
  |some a,some b=>some (a && b)
  |_,_=>none
 |_,_=>some true
def zA (h:H3):Nat->V3->V3->Option Bool
 |0,x,y=>match z7 h x,z7 h y with
  |.f a,.f b=>some (eqV a b)
  |_,_=>none
 |n+1,x,y=>match z7 h x,z7 h y with
  |.f a,.f b=>some (eqV a b)
  |.l xs,.l ys=>if xs.length=ys.length then yf (zA h n) xs ys else some false
  |.t xs,.t ys=>(yf (zA h n) xs ys).map (· && xs.length==ys.length)
  |.o,_=>none
  |_,.o=>none
  |_,_=>some false
section
variable {X:Cx} {κ:Kx} {E:XK} {F:Fr} {σ:L2.St} {H H':Hp} {Q:VK} {p:Addr} {pos:Pos} {i:Nat}
theorem DL {f:V3->V3->Option Bool}:∀{xs ys:List V3} {b:Bool},yf f xs ys=some b->(∀(j:Nat) (x y:V3),xs[j]? =some x->ys[j]? =some y->∃c,f x y=some c)/\b=(List.range (min xs.length ys.length)).all fun j=>((xs[j]?).bind fun x=>(ys[j]?).bind fun y=>f x y).getD false
 | [],ys,b,e=>by
  unfold yf at e;cases e;exact⟨fun j x y h=>by simp at h,by simp⟩
 |x::xs,[],b,e=>by
  unfold yf at e;cases e;exact⟨fun j x y _ h=>by simp at h,by simp⟩
 |x::xs,y::ys,b,e=>by
  unfold yf at e;cases q1:f x y with
  |none=>simp only[q1]at e;cases e
  |some a=>
   cases q2:yf f xs ys with
   |none=>simp only[q1,q2]at e;cases e
   |some c=>
    simp only[q1,q2]at e;cases e;obtain⟨h1,h2⟩:=DL q2
    refine⟨fun j x' y' hx hy=>?_,?_⟩
    .cases j with
     |zero=>simp at hx hy;subst hx;subst hy;exact⟨a,q1⟩
     |succ j=>exact h1 j x' y' (by simpa using hx) (by simpa using hy)
    .rw[Az,Az,Nat.add_min_add_right,List.range_succ_eq_map,List.all_cons,List.all_map]
     simp only[Fc,Fd,q1,Option.getD_some,h2,Function.comp_def,Fe]
def qF {x:V3} {v:V} (rel:RelH κ F.O F.β F.h H) (r:Rep κ F.β F.O H x v):match z7 F.h x with
  |.f a=>v=a/\AR a=true
  |.l xs=> ∃a ys,v=.ref a/\H a=some (.lst ys)/\Reps κ F.β F.O H xs ys
  |.t xs=> ∃a ys,v=.ref a/\H a=some (.tup ys)/\Reps κ F.β F.O H xs ys
  |.o=>True:=by
 cases r with
 |lst h1 h2 h3 h4=>exact⟨_,_,rfl,h1,h4⟩
 |tup h1 h2 h3 h4=>exact⟨_,_,rfl,h1,h4⟩
 | @loc n v h1 h2=>
  simp only[z7];cases q:F.h[n]? with
  |none=>trivial
  |some c=>
   cases c with
   |lst xs=>
    rcases rel.cell n _ q with z|⟨a,ha,ys,h5,h6⟩
    .cases z
    .exact⟨a,ys,h2 a ha,h5,h6⟩
   |_=>trivial
 |_=>first|exact⟨rfl,rfl⟩|trivial
def Vals.at {ys:List V} {us:List Value} {j:Nat} {y:V} (r:Vals ys us) (h:j<us.toArray.size) (e:ys[j]? =some y):RelV y us.toArray[j]:=by
 obtain⟨u,h1,h2⟩:=r.get e;have:=(An.mp h1).2;have e1:us.toArray[j]=u:=by simpa using this
 rw[e1];exact h2
def KB {n:Nat} (ih:∀{x y:V3} {v:V} {b:Bool},Rep κ F.β F.O H x v->Rep κ F.β F.O H y v->zA F.h n x y=some b->b=true):∀{xs ys:List V3} {vs:List V} {b:Bool},Reps κ F.β F.O H xs vs->Reps κ F.β F.O H ys vs->yf (zA F.h n) xs ys=some b->b=true:=by
 intro xs
 induction xs with
 |nil=>intro ys vs b _ _ e;unfold yf at e;cases e;rfl
 |cons x xs ihx=>
  intro ys vs b r1 r2 e;cases r1 with
  |cons a1 t1=>
   cases r2 with
   | @cons y _ ys _ a2 t2=>
    unfold yf at e;cases q1:zA F.h n x y with
    |none=>simp only[q1]at e;cases e
    |some a=>
     cases q2:yf (zA F.h n) xs ys with
     |none=>simp only[q1,q2]at e;cases e
     |some c=>
      simp only[q1,q2]at e;cases e;rw[ih a1 a2 q1,ihx t1 t2 q2];rfl
def KC {a:V} (h:AR a=true):eqV a a=true:=by cases a<;>simp[AR]at h<;>simp[eqV]
theorem HM (rel:RelH κ F.O F.β F.h H):∀(n:Nat) {x y:V3} {v:V} {b:Bool},Rep κ F.β F.O H x v->Rep κ F.β F.O H y v->zA F.h n x y=some b->b=true
 |0,x,y,v,b,rx,ry,e=>by
  have kx:=qF rel rx;have ky:=qF rel ry;unfold zA at e;cases h1:z7 F.h x<;>cases h2:z7 F.h y<;>simp only[h1,h2]at e kx ky<;>try cases e
  obtain⟨e1,e2⟩:=kx;obtain⟨e3,_⟩:=ky;rw[<-e1,<-e3];rw[<-e1]at e2;exact KC e2
 |n+1,x,y,v,b,rx,ry,e=>by
  have kx:=qF rel rx;have ky:=qF rel ry;unfold zA at e;cases h1:z7 F.h x<;>cases h2:z7 F.h y<;>simp only[h1,h2]at e kx ky<;>try cases e
  case f.f=>
   obtain⟨e1,e2⟩:=kx;obtain⟨e3,_⟩:=ky;rw[<-e1,<-e3];rw[<-e1]at e2;exact KC e2
  case f.l=>obtain⟨e1,e2⟩:=kx;obtain⟨a,ys,e3,_⟩:=ky;rw[<-e1,e3]at e2;cases e2
  case f.t=>obtain⟨e1,e2⟩:=kx;obtain⟨a,ys,e3,_⟩:=ky;rw[<-e1,e3]at e2;cases e2
  case l.f=>obtain⟨e1,e2⟩:=ky;obtain⟨a,ys,e3,_⟩:=kx;rw[<-e1,e3]at e2;cases e2
  case t.f=>obtain⟨e1,e2⟩:=ky;obtain⟨a,ys,e3,_⟩:=kx;rw[<-e1,e3]at e2;cases e2
  case l.t=>obtain⟨a,ys,e3,h5,_⟩:=kx;obtain⟨a',ys',e4,h6,_⟩:=ky;rw[e3]at e4;cases e4;rw[h5]at h6;cases h6
  case t.l=>obtain⟨a,ys,e3,h5,_⟩:=kx;obtain⟨a',ys',e4,h6,_⟩:=ky;rw[e3]at e4;cases e4;rw[h5]at h6;cases h6
  case l.l xs ys=>
   obtain⟨a,us,e3,h5,r5⟩:=kx;obtain⟨a',us',e4,h6,r6⟩:=ky;rw[e3]at e4;cases e4;rw[h5]at h6;cases h6;rw[Aa (by rw[r5.length,r6.length])]at e
   exact KB (fun a b c=>HM rel n a b c) r5 r6 e
  case t.t xs ys=>
   obtain⟨a,us,e3,h5,r5⟩:=kx;obtain⟨a',us',e4,h6,r6⟩:=ky;rw[e3]at e4;cases e4;rw[h5]at h6;cases h6;cases q:yf (zA F.h n) xs ys with
   |none=>rw[q]at e;cases e
   |some c=>
    rw[q]at e;cases e;rw[KB (fun a b c=>HM rel n a b c) r5 r6 q,r5.length,r6.length]
    simp
def KD {s:Shared} {a c:V} {v u:Value} {A:Around} (r1:RelV a v) (r2:RelV c u) (f1:AR a=true) (f2:AR c=true):SeqAt.RcAt A s v u (eqV a c)/\SeqAt.RcNeAt A s v u (!eqV a c):=by
 cases a with
 |non=>
  cases r1;cases c with
  |non=>cases r2;exact⟨.none_none,.none_none⟩
  |bl c=>cases r2;exact⟨.none_bool _,.none_bool _⟩
  |int c=>obtain⟨tr2,rfl⟩:=r2;exact⟨.none_int _ _,.none_int _ _⟩
  |str c=>obtain⟨tr2,rfl⟩:=r2;exact⟨.none_str _ _,.none_str _ _⟩
  |_=>exact absurd (show false=true from f2) A7
 |bl a=>
  cases r1;cases c with
  |non=>cases r2;exact⟨.bool_none _,.bool_none _⟩
  |bl c=>cases r2;exact⟨.bool_bool _ _,.bool_bool _ _⟩
  |int c=>obtain⟨tr2,rfl⟩:=r2;exact⟨.bool_int _ _ _,.bool_int _ _ _⟩
  |str c=>obtain⟨tr2,rfl⟩:=r2;exact⟨.bool_str _ _ _,.bool_str _ _ _⟩
  |_=>exact absurd (show false=true from f2) A7
 |int a=>
  obtain⟨tr1,rfl⟩:=r1;cases c with
  |non=>cases r2;exact⟨.int_none _ _,.int_none _ _⟩
  |bl c=>cases r2;exact⟨.int_bool _ _ _,.int_bool _ _ _⟩
  |int c=>obtain⟨tr2,rfl⟩:=r2;exact⟨.int_int _ _ _ _,.int_int _ _ _ _⟩
  |str c=>obtain⟨tr2,rfl⟩:=r2;exact⟨.int_str _ _ _ _,.int_str _ _ _ _⟩
  |_=>exact absurd (show false=true from f2) A7
 |str a=>
  obtain⟨tr1,rfl⟩:=r1;cases c with
  |non=>cases r2;exact⟨.str_none _ _,.str_none _ _⟩
  |bl c=>cases r2;exact⟨.str_bool _ _ _,.str_bool _ _ _⟩
  |int c=>obtain⟨tr2,rfl⟩:=r2;exact⟨.str_int _ _ _ _,.str_int _ _ _ _⟩
  |str c=>obtain⟨tr2,rfl⟩:=r2;exact⟨.str_str _ _ _ _,.str_str _ _ _ _⟩
  |_=>exact absurd (show false=true from f2) A7
 |_=>exact absurd (show false=true from f1) A7
def ans (h:H3) (n:Nat) (xs ys:List V3) (j:Nat):Bool:=((xs[j]?).bind fun x=>(ys[j]?).bind fun y=>zA h n x y).getD false
def HN (rel:RelH κ F.O F.β F.h H):∀(n:Nat) {pins:AL} {s:Shared} {x y:V3} {v' u':V} {v u:Value} {b:Bool} {A:Around},Inv X pins σ H s->Rep κ F.β F.O H x v'->Rep κ F.β F.O H y u'->RelV v' v->RelV u' u->zA F.h n x y=some b->A.units+n<cLine->
  (SeqAt.RcAt A s v u b/\SeqAt.RcNeAt A s v u (!b))/\SeqAt.EqAt A s v u b:=by
 intro n
 induction n with
 |zero=>
  intro pins s x y v' u' v u b A I rx ry rv ru e hu;have kx:=qF rel rx;have ky:=qF rel ry;unfold zA at e;cases h1:z7 F.h x<;>cases h2:z7 F.h y<;>simp only[h1,h2]at e kx ky<;>try cases e
  obtain⟨e1,e2⟩:=kx;obtain⟨e3,e4⟩:=ky;subst e1;subst e3;exact⟨KD rv ru e2 e4,Ke rv ru e2 e4⟩
 |succ n ih=>
  intro pins s x y v' u' v u b A I rx ry rv ru e hu;have kx:=qF rel rx;have ky:=qF rel ry;have e0:=e;unfold zA at e;have items:∀{xs ys:List V3} {us ws:List V} {vs zs:List Value} {c:Bool},Reps κ F.β F.O H xs us->Reps κ F.β F.O H ys ws->Vals us vs->Vals ws zs->yf (zA F.h n) xs ys=some c->∀j (h1:j<vs.toArray.size) (h2:j<zs.toArray.size),SeqAt.EqAt A.in1 s vs.toArray[j] zs.toArray[j] (ans F.h n xs ys j):=by
   intro xs ys us ws vs zs c r1 r2 v1 v2 q j h1 h2;have l1:=r1.length;have l2:=r2.length;have l3:=v1.length;have l4:=v2.length;have h1':j<xs.length:=by rw[l1,l3];simpa using h1
   have h2':j<ys.length:=by rw[l2,l4];simpa using h2
   obtain⟨y1,hy1,ry1⟩:=r1.get (zH h1');obtain⟨y2,hy2,ry2⟩:=r2.get (zH h2');obtain⟨d,hd⟩:=(DL q).1 j _ _ (zH h1') (zH h2');have ea:ans F.h n xs ys j=d:=by unfold ans;rw[zH h1',zH h2'];simp[hd]
   rw[ea];exact (ih I ry1 ry2 (Vals.at v1 h1 hy1) (Vals.at v2 h2 hy2) hd (by show A.units+1+n<cLine;lia)).2
  have wrap:∀{a a':Addr},v'=.ref a->u'=.ref a'->(SeqAt.RcAt A s v u b/\SeqAt.RcNeAt A s v u (!b))->(SeqAt.RcAt A s v u b/\SeqAt.RcNeAt A s v u (!b))/\SeqAt.EqAt A s v u b:=by
   intro a a' ea ea' h
   refine⟨h,?_⟩
   subst ea;subst ea';cases rv;cases ru
   by_cases z:a=a'
   .subst z
    rw[HM rel (n+1) rx ry e0];exact SeqAt.EqAt.same _
   .exact SeqAt.EqAt.of_refs z h.1
  cases h1:z7 F.h x<;>cases h2:z7 F.h y<;>simp only[h1,h2]at e kx ky<;>try cases e
  case succ.f.f.refl=>
   obtain⟨e1,e2⟩:=kx;obtain⟨e3,e4⟩:=ky;subst e1;subst e3;exact⟨KD rv ru e2 e4,Ke rv ru e2 e4⟩
  case succ.l.l xs ys=>
   obtain⟨a,us,rfl,h5,r5⟩:=kx;obtain⟨a',us',rfl,h6,r6⟩:=ky
   refine wrap rfl rfl ?_
   cases rv;cases ru;obtain⟨vs,rv,pl,_⟩:=I.list (SqL.of (K:=X.K) h5);obtain⟨zs,rz,pz,_⟩:=I.list (SqL.of (K:=X.K) h6);have l1:=r5.length;have l2:=r6.length;have l3:=rv.length;have l4:=rz.length
   by_cases hl:xs.length=ys.length
   .rw[Aa hl]at e
    have hsz:vs.toArray.size=zs.toArray.size:=by rw[Ak,Ak];lia
    have eb:b=(List.range vs.toArray.size).all (ans F.h n xs ys):=by
     rw[(DL e).2,<-hl,Nat.min_self,Ak,<-l3,<-l1];rfl
    rw[eb];exact⟨.lists pl.isList pz.isList hsz (by lia) (items r5 r6 rv rz e),.lists pl.isList pz.isList hsz (by lia) (items r5 r6 rv rz e)⟩
   .rw[Ac hl]at e;cases e
    have hsz:(vs.toArray.size !=zs.toArray.size)=true:=by rw[Ak,Ak];simp;lia
    exact⟨.lists_lengths pl.isList pz.isList hsz (by lia),.lists_lengths pl.isList pz.isList hsz (by lia)⟩
  case succ.t.t xs ys=>
   obtain⟨a,us,rfl,h5,r5⟩:=kx;obtain⟨a',us',rfl,h6,r6⟩:=ky
   refine wrap rfl rfl ?_
   cases rv;cases ru;obtain⟨vs,rv,pl,_⟩:=I.tuple (SqT.of (K:=X.K) h5);obtain⟨zs,rz,pz,_⟩:=I.tuple (SqT.of (K:=X.K) h6);have l1:=r5.length;have l2:=r6.length;have l3:=rv.length;have l4:=rz.length;cases q:yf (zA F.h n) xs ys with
   |none=>rw[q]at e;cases e
   |some c=>
    rw[q]at e;have eb:b=((List.range (min vs.toArray.size zs.toArray.size)).all (ans F.h n xs ys) && vs.toArray.size==zs.toArray.size):=by
     cases e;rw[(DL q).2,Ak,Ak,<-l3,<-l4,<-l1,<-l2];rfl
    rw[eb];exact⟨.tuples (show s.heap.IsTuple a vs.toArray from pl) (show s.heap.IsTuple a' zs.toArray from pz) (by lia) (items r5 r6 rv rz q),.tuples (show s.heap.IsTuple a vs.toArray from pl) (show s.heap.IsTuple a' zs.toArray from pz) (by lia) (items r5 r6 rv rz q)⟩
  case succ.l.t.refl xs ys=>
   obtain⟨a,us,rfl,h5,r5⟩:=kx;obtain⟨a',us',rfl,h6,r6⟩:=ky
   refine wrap rfl rfl ?_
   cases rv;cases ru;obtain⟨vs,rv,pl,_⟩:=I.list (SqL.of (K:=X.K) h5);obtain⟨zs,rz,pz,_⟩:=I.tuple (SqT.of (K:=X.K) h6);exact⟨.list_tuple pl.isList (show s.heap.IsTuple a' zs.toArray from pz) (by lia),.list_tuple pl.isList (show s.heap.IsTuple a' zs.toArray from pz) (by lia)⟩
  case succ.t.l.refl xs ys=>
   obtain⟨a,us,rfl,h5,r5⟩:=kx;obtain⟨a',us',rfl,h6,r6⟩:=ky
   refine wrap rfl rfl ?_
   cases rv;cases ru;obtain⟨vs,rv,pl,_⟩:=I.tuple (SqT.of (K:=X.K) h5);obtain⟨zs,rz,pz,_⟩:=I.list (SqL.of (K:=X.K) h6);exact⟨.tuple_list (show s.heap.IsTuple a vs.toArray from pl) pz.isList (by lia),.tuple_list (show s.heap.IsTuple a vs.toArray from pl) pz.isList (by lia)⟩
  case succ.l.f.refl xs a0=>
   obtain⟨a,us,rfl,h5,r5⟩:=kx;obtain⟨e3,e4⟩:=ky;subst e3;cases rv;obtain⟨vs,rv,pl,_⟩:=I.list (SqL.of (K:=X.K) h5);have hu':A.units<cLine:=by lia
   cases u' with
   |non=>cases ru;exact⟨⟨.list_none pl.isList hu',.list_none pl.isList hu'⟩,.list_none pl.isList hu'⟩
   |bl b=>cases ru;exact⟨⟨.list_bool b pl.isList hu',.list_bool b pl.isList hu'⟩,.list_bool b pl.isList hu'⟩
   |int b=>obtain⟨t,rfl⟩:=ru;exact⟨⟨.list_int b t pl.isList hu',.list_int b t pl.isList hu'⟩,.list_int b t pl.isList hu'⟩
   |str b=>obtain⟨t,rfl⟩:=ru;exact⟨⟨.list_str b t pl.isList hu',.list_str b t pl.isList hu'⟩,.list_str b t pl.isList hu'⟩
   |_=>exact absurd (show false=true from e4) A7
  case succ.t.f.refl xs a0=>
   obtain⟨a,us,rfl,h5,r5⟩:=kx;obtain⟨e3,e4⟩:=ky;subst e3;cases rv;obtain⟨vs,rv,pl,_⟩:=I.tuple (SqT.of (K:=X.K) h5);have pl:s.heap.IsTuple a vs.toArray:=pl;have hu':A.units<cLine:=by lia
   cases u' with
   |non=>cases ru;exact⟨⟨.tuple_none pl hu',.tuple_none pl hu'⟩,.tuple_none pl hu'⟩
   |bl b=>cases ru;exact⟨⟨.tuple_bool b pl hu',.tuple_bool b pl hu'⟩,.tuple_bool b pl hu'⟩
   |int b=>obtain⟨t,rfl⟩:=ru;exact⟨⟨.tuple_int b t pl hu',.tuple_int b t pl hu'⟩,.tuple_int b t pl hu'⟩
   |str b=>obtain⟨t,rfl⟩:=ru;exact⟨⟨.tuple_str b t pl hu',.tuple_str b t pl hu'⟩,.tuple_str b t pl hu'⟩
   |_=>exact absurd (show false=true from e4) A7
  case succ.f.l.refl a0 xs=>
   obtain⟨a,us,rfl,h5,r5⟩:=ky;obtain⟨e3,e4⟩:=kx;subst e3;cases ru;obtain⟨vs,ru,pl,_⟩:=I.list (SqL.of (K:=X.K) h5);have hu':A.units<cLine:=by lia
   cases v' with
   |non=>cases rv;exact⟨⟨.none_list pl.isList hu',.none_list pl.isList hu'⟩,.none_list pl.isList hu'⟩
   |bl b=>cases rv;exact⟨⟨.bool_list b pl.isList hu',.bool_list b pl.isList hu'⟩,.bool_list b pl.isList hu'⟩
   |int b=>obtain⟨t,rfl⟩:=rv;exact⟨⟨.int_list b t pl.isList hu',.int_list b t pl.isList hu'⟩,.int_list b t pl.isList hu'⟩
   |str b=>obtain⟨t,rfl⟩:=rv;exact⟨⟨.str_list b t pl.isList hu',.str_list b t pl.isList hu'⟩,.str_list b t pl.isList hu'⟩
   |_=>exact absurd (show false=true from e4) A7
  case succ.f.t.refl a0 xs=>
   obtain⟨a,us,rfl,h5,r5⟩:=ky;obtain⟨e3,e4⟩:=kx;subst e3;cases ru;obtain⟨vs,ru,pl,_⟩:=I.tuple (SqT.of (K:=X.K) h5);have pl:s.heap.IsTuple a vs.toArray:=pl;have hu':A.units<cLine:=by lia
   cases v' with
   |non=>cases rv;exact⟨⟨.none_tuple pl hu',.none_tuple pl hu'⟩,.none_tuple pl hu'⟩
   |bl b=>cases rv;exact⟨⟨.bool_tuple b pl hu',.bool_tuple b pl hu'⟩,.bool_tuple b pl hu'⟩
   |int b=>obtain⟨t,rfl⟩:=rv;exact⟨⟨.int_tuple b t pl hu',.int_tuple b t pl hu'⟩,.int_tuple b t pl hu'⟩
   |str b=>obtain⟨t,rfl⟩:=rv;exact⟨⟨.str_tuple b t pl hu',.str_tuple b t pl hu'⟩,.str_tuple b t pl hu'⟩
   |_=>exact absurd (show false=true from e4) A7
def qf (s:S3) (h:H3) (x y:Rf):Option Bool:=match rdm s h x,rdm s h y with
 |some xs,some ys=>if xs.length=ys.length then yf (zA h 8) xs ys else some false
 |_,_=>match x,y with
  |.x a,.x b=>zA h 9 a b
  |_,_=>none
def yM:F2:=fun s h x y=>(qf s h x y).map fun b=>.v (.bl b)
def yh:F2:=fun s h x y=>(qf s h x y).map fun b=>.v (.bl !b)
def rEqT (κ:Kx) (neg:Bool):R2:=fun v w H Q=> ∃F σ x y b,Rel κ F σ H/\RfR κ F H x v/\RfR κ F H y w/\qf F.s F.h x y=some b/\Q (.bl (if neg then !b else b)) H
def KF {pins:AL} {s:Shared} {σ':L2.St} {x y:Rf} {v' u':V} {v u:Value} {b:Bool} {A:Around} (I:Inv X pins σ' H s) (rel:Rel κ F σ H) (rx:RfR κ F H x v') (ry:RfR κ F H y u') (rv:RelV v' v) (ru:RelV u' u) (e:qf F.s F.h x y=some b) (hu:A.units+9<cLine):
  SeqAt.RcAt A s v u b/\SeqAt.RcNeAt A s v u (!b):=by
 unfold qf at e
 split at e
 .rename_i xs ys q1 q2
  obtain⟨a,us,rfl,h5,r5⟩:=CA rel rx q1;obtain⟨a',us',rfl,h6,r6⟩:=CA rel ry q2;cases rv;cases ru;obtain⟨vs,rv,pl,_⟩:=I.list (SqL.of (K:=X.K) h5);obtain⟨zs,rz,pz,_⟩:=I.list (SqL.of (K:=X.K) h6);have l1:=r5.length;have l2:=r6.length;have l3:=rv.length;have l4:=rz.length
  by_cases hl:xs.length=ys.length
  .rw[Aa hl]at e
   have hsz:vs.toArray.size=zs.toArray.size:=by rw[Ak,Ak];lia
   have eb:b=(List.range vs.toArray.size).all (ans F.h 8 xs ys):=by
    rw[(DL e).2,<-hl,Nat.min_self,Ak,<-l3,<-l1];rfl
   have items:∀j (h1:j<vs.toArray.size) (h2:j<zs.toArray.size),SeqAt.EqAt A.in1 s vs.toArray[j] zs.toArray[j] (ans F.h 8 xs ys j):=by
    intro j h1 h2;have h1':j<xs.length:=by rw[l1,l3];simpa using h1
    have h2':j<ys.length:=by rw[l2,l4];simpa using h2
    obtain⟨y1,hy1,ry1⟩:=r5.get (zH h1');obtain⟨y2,hy2,ry2⟩:=r6.get (zH h2');obtain⟨d,hd⟩:=(DL e).1 j _ _ (zH h1') (zH h2');have ea:ans F.h 8 xs ys j=d:=by unfold ans;rw[zH h1',zH h2'];simp[hd]
    rw[ea];exact (HN rel.heap 8 I ry1 ry2 (Vals.at rv h1 hy1) (Vals.at rz h2 hy2) hd (by show A.units+1+8<cLine;lia)).2
   rw[eb];exact⟨.lists pl.isList pz.isList hsz (by lia) items,.lists pl.isList pz.isList hsz (by lia) items⟩
  .rw[Ac hl]at e;cases e
   have hsz:(vs.toArray.size !=zs.toArray.size)=true:=by rw[Ak,Ak];simp;lia
   exact⟨.lists_lengths pl.isList pz.isList hsz (by lia),.lists_lengths pl.isList pz.isList hsz (by lia)⟩
 .split at e
  .exact (HN rel.heap 9 I (show Rep κ F.β F.O H _ v' from rx) (show Rep κ F.β F.O H _ u' from ry) rv ru e hu).1
  .cases e
def CC (hu:X.A.units+9<cLine):OpR X (compareOp .Eq) (rEqT κ false):=by
 intro pins s σ H x y v u Q I rx ry h;obtain⟨F,σ',x3,y3,b,rel,r1,r2,e,q⟩:=h;exact (KF I rel r1 r2 rx ry e hu).1 X.prog X.w X.xe _ ⟨.bl b,H,I,rfl,q⟩
def qP (hu:X.A.units+9<cLine):OpR X (compareOp .NotEq) (rEqT κ true):=by
 intro pins s σ H x y v u Q I rx ry h;obtain⟨F,σ',x3,y3,b,rel,r1,r2,e,q⟩:=h;exact (KF I rel r1 r2 rx ry e hu).2 X.prog X.w X.xe _ ⟨.bl !b,H,I,rfl,q⟩
def CD:OpSim κ (rEqT κ false) yM:=fun F σ H x y z v w Q rel rx ry e k=>by
 unfold yM at e;cases q:qf F.s F.h x y with
 |none=>rw[q]at e;cases e
 |some b=>rw[q]at e;cases e;exact⟨F,σ,x,y,b,rel,rx,ry,q,k _ H Ext.refl ⟨rel,.bl _⟩⟩
def qL:OpSim κ (rEqT κ true) yh:=fun F σ H x y z v w Q rel rx ry e k=>by
 unfold yh at e;cases q:qf F.s F.h x y with
 |none=>rw[q]at e;cases e
 |some b=>rw[q]at e;cases e;exact⟨F,σ,x,y,b,rel,rx,ry,q,k _ H Ext.refl ⟨rel,.bl _⟩⟩
end
section
variable {X:Cx} {κ:Kx} {E:XK} {F:Fr} {σ:L2.St} {H H':Hp} {Q:VK} {p:Addr} {pos np:Pos} {i:Nat} {x:Str} {e:Expr} {es:List Expr} {t:A3}
def r_b {id:String} {r:List V->Hp->VK->Prop} {f:FB} (hs:ql κ r f) (hc:yy X (.builtin id) r) (hg:Gl X x) (hm:X.mg x=none) (hv:bootBuiltins x=some (.builtin id)) (ha:PA X (e::es) (zB κ E t)) (hn:x≠"__name__" :=by decide) (hdb:(x==("__debug__" :Str))=false:=by decide)
 (he:SE X e es:=by rfl) (hpl:BA X pos es:=by rfl):PE X (.Call (.Name x np) (e::es) [] pos) (zh κ E (eB f t)):=ym (Ow hc hg hm hv ha hn hdb he hpl) fun _ _ _ h=>te_b hs h
def r_ty {T:String} {r:List V->Hp->VK->Prop} {f:FB} (hs:ql κ r f) (hc:yy X (.type T) r) (hg:Gl X x) (hm:X.mg x=none) (hv:bootBuiltins x=some (.type T)) (ha:PA X (e::es) (zB κ E t)) (hn:x≠"__name__" :=by decide) (hdb:(x==("__debug__" :Str))=false:=by decide)
 (he:SE X e es:=by rfl) (hpl:BA X pos es:=by rfl):PE X (.Call (.Name x np) (e::es) [] pos) (zh κ E (eB f t)):=ym (Ox hc hg hm hv ha hn hdb he hpl) fun _ _ _ h=>te_b hs h
def p1 {f:Rf} {vs:List V} (r:Paired (RfR κ F H) [f] vs):∃v,vs=[v]/\RfR κ F H f v:=by
 cases r with|cons a t=>cases t;exact⟨_,rfl,a⟩
def p2 {f g:Rf} {vs:List V} (r:Paired (RfR κ F H) [f,g] vs):∃v w,vs=[v,w]/\RfR κ F H f v/\RfR κ F H g w:=by
 cases r with|cons a t=>cases t with|cons b t=>cases t;exact⟨_,_,rfl,a,b⟩
def bLen:FB:=fun s h fs=>match fs with
 | [.x (.str y)]=>if y.length<=sizeLine then some (.v (.int y.length)) else none
 | [.x (.tup xs)]=>some (.v (.int xs.length))
 | [f]=>(rdl s h f).map fun xs=>.v (.int xs.length)
 |_=>none
def AE:ql κ (fun xs H Q=> ∃x n,xs=[x]/\LenV κ.K x H n/\Q (.int n) H) bLen:=fun F σ H fs z vs Q rel r e k=>by
 unfold bLen at e
 split at e
 .rename_i y
  obtain⟨v,rfl,rv⟩:=p1 r;cases (show Rep κ F.β F.O H (.str y) v from rv)
  obtain⟨h,rfl⟩:=qr e;exact⟨_,_,rfl,⟨h,rfl⟩,k _ H Ext.refl ⟨rel,.int _⟩⟩
 .rename_i xs
  obtain⟨v,rfl,rv⟩:=p1 r;cases e;cases (show Rep κ F.β F.O H (.tup xs) v from rv) with
  |tup h1 h2 h3 h4=>exact⟨_,_,rfl,.inr ⟨_,.of h1,rfl⟩,k _ H Ext.refl ⟨rel,by rw[h4.length];exact .int _⟩⟩
 .rename_i f _ _
  obtain⟨v,rfl,rv⟩:=p1 r;cases q:rdl F.s F.h f with
  |none=>rw[q]at e;cases e
  |some xs=>
   rw[q]at e;cases e;obtain⟨a,ys,rfl,sq,rs⟩:=AB rel rv q;exact⟨_,_,rfl,.inl ⟨_,sq,rfl⟩,k _ H Ext.refl ⟨rel,by rw[rs.length];exact .int _⟩⟩
 .cases e
def AF (hK:X.K=κ.K):yy X (.builtin "len") (fun xs H Q=> ∃x n,xs=[x]/\LenV κ.K x H n/\Q (.int n) H):=by rw[<-hK];exact NV
def bMax:FB:=fun _ _ fs=>match fs with
 | [.x (.int i),.x (.int j)]=>some (.v (.int (max i j)))
 |_=>none
def bMin:FB:=fun _ _ fs=>match fs with
 | [.x (.int i),.x (.int j)]=>some (.v (.int (min i j)))
 |_=>none
def bMin3:FB:=fun _ _ fs=>match fs with
 | [.x (.int i),.x (.int j),.x (.int k)]=>some (.v (.int (min i (min j k))))
 |_=>none
def DM:ql κ (fun xs H Q=> ∃i j,xs=[.int i,.int j]/\Q (.int (if j > i then j else i)) H) bMax:=fun F σ H fs z vs Q rel r e k=>by
 unfold bMax at e
 split at e
 .rename_i i j
  cases e;obtain⟨v,w,rfl,rv,rw'⟩:=p2 r;cases (show Rep κ F.β F.O H (.int i) v from rv)
  cases (show Rep κ F.β F.O H (.int j) w from rw')
  refine⟨i,j,rfl,k _ H Ext.refl ⟨rel,?_⟩⟩
  have:(if j > i then j else i)=max i j:=by split<;>lia
  rw[this];exact .int _
 .cases e
def Qi:ql κ (fun xs H Q=> ∃i j,xs=[.int i,.int j]/\Q (.int (if j<i then j else i)) H) bMin:=fun F σ H fs z vs Q rel r e k=>by
 unfold bMin at e
 split at e
 .rename_i i j
  cases e;obtain⟨v,w,rfl,rv,rw'⟩:=p2 r;cases (show Rep κ F.β F.O H (.int i) v from rv)
  cases (show Rep κ F.β F.O H (.int j) w from rw')
  refine⟨i,j,rfl,k _ H Ext.refl ⟨rel,?_⟩⟩
  have:(if j<i then j else i)=min i j:=by split<;>lia
  rw[this];exact .int _
 .cases e
def bInt:FB:=fun _ _ fs=>match fs with
 | [.x (.int i)]=>some (.v (.int i))
 | [.x (.bl b)]=>some (.v (.int (if b then 1 else 0)))
 |_=>none
def bList:FB:=fun s h fs=>match fs with
 | [.x (.tup xs)]=>some (.m (.lst xs))
 | [f]=>(rdl s h f).map fun xs=>.m (.lst xs)
 |_=>none
def HP:ql κ (fun xs H Q=> ∃p ys,xs=[.ref p]/\(SqL κ.K H p ys\/SqT κ.K H p ys)/\∀l,H l=none->Q (.ref l) (zi H l (.lst ys))) bList:=fun F σ H fs z vs Q rel r e k=>by
 unfold bList at e
 split at e
 .rename_i xs
  cases e;obtain⟨v,rfl,rv⟩:=p1 r;cases (show Rep κ F.β F.O H (.tup xs) v from rv) with
  |tup h1 h2 h3 h4=>exact⟨_,_,rfl,.inr (.of h1),fun l hl=>k _ _ (yE hl) (Post.lst rel hl h4)⟩
 .rename_i f _
  obtain⟨v,rfl,rv⟩:=p1 r;cases q:rdl F.s F.h f with
  |none=>rw[q]at e;cases e
  |some xs=>
   rw[q]at e;cases e;obtain⟨a,ys,rfl,sq,rs⟩:=AB rel rv q;exact⟨_,_,rfl,.inl sq,fun l hl=>k _ _ (yE hl) (Post.lst rel hl rs)⟩
 .cases e
def zF {α β:Type} (f:α->Option β):List α->Option (List β)
 | []=>some []
 |x::r=>match f x,zF f r with
  |some y,some l=>some (y::l)
  |_,_=>none
theorem EZ {α β γ:Type} {f:α->Option β} {g:γ->α} {k:γ->β} (h:∀c,f (g c)=some (k c)):∀l:List γ,zF f (l.map g)=some (l.map k)
 | []=>rfl
 |x::r=>by simp only[Al,zF,h x,EZ h r]
def HQ {α β:Type} {f:α->Option β} {x:α} {r:List α} {l:List β} (e:zF f (x::r)=some l):∃y l',f x=some y/\zF f r=some l'/\l=y::l':=by
 unfold zF at e;cases q1:f x with
 |none=>simp only[q1]at e;cases e
 |some y=>
  cases q2:zF f r with
  |none=>simp only[q1,q2]at e;cases e
  |some l'=>simp only[q1,q2]at e;cases e;exact⟨y,l',rfl,rfl,rfl⟩
def bl3:V3->Option Bool
 |.bl b=>some b
 |_=>none
def int3:V3->Option Int
 |.int i=>some i
 |_=>none
theorem KG:∀{xs:List V3} {ys:List V} {bs:List Bool},Reps κ F.β F.O H xs ys->zF bl3 xs=some bs->ys=bs.map V.bl
 |_,_,_,.nil,e=>by cases e;rfl
 |x::xs,y::ys,bs,.cons a r,e=>by
  obtain⟨b,l,h1,h2,rfl⟩:=HQ e;cases x<;>simp[bl3]at h1
  subst h1;cases a;rw[Al,KG r h2]
theorem HR:∀{xs:List V3} {ys:List V} {bs:List Int},Reps κ F.β F.O H xs ys->zF int3 xs=some bs->ys=bs.map V.int
 |_,_,_,.nil,e=>by cases e;rfl
 |x::xs,y::ys,bs,.cons a r,e=>by
  obtain⟨b,l,h1,h2,rfl⟩:=HQ e;cases x<;>simp[int3]at h1
  subst h1;cases a;rw[Al,HR r h2]
def bAll (q:List Bool->Bool):FB:=fun s h fs=>match fs with
 | [f]=>match rdl s h f with
  |some xs=>(zF bl3 xs).map fun bs=>.v (.bl (q bs))
  |none=>none
 |_=>none
def HS {q:List Bool->Bool}:ql κ (fun xs H Q=> ∃(p:Addr) (bs:List Bool),xs=[.ref p]/\SqL κ.K H p (bs.map V.bl)/\Q (.bl (q bs)) H) (bAll q):=fun F σ H fs z vs Q rel r e k=>by
 unfold bAll at e
 split at e
 .rename_i f
  obtain⟨v,rfl,rv⟩:=p1 r;cases q1:rdl F.s F.h f with
  |none=>rw[q1]at e;cases e
  |some xs=>
   rw[q1]at e;cases q2:zF bl3 xs with
   |none=>simp only[q2]at e;cases e
   |some bs=>
    simp only[q2]at e;cases e;obtain⟨a,ys,rfl,sq,rs⟩:=AB rel rv q1;exact⟨a,bs,rfl,by rw[<-KG rs q2];exact sq,k _ H Ext.refl ⟨rel,.bl _⟩⟩
 .cases e
def KH (hK:X.K=κ.K) (hc:X.calm=true):yy X (.builtin "all") (fun xs H Q=> ∃(p:Addr) (bs:List Bool),xs=[.ref p]/\SqL κ.K H p (bs.map V.bl)/\Q (.bl (bs.all id)) H):=by rw[<-hK];exact Pb hc
def Qj (hK:X.K=κ.K) (hc:X.calm=true):yy X (.builtin "any") (fun xs H Q=> ∃(p:Addr) (bs:List Bool),xs=[.ref p]/\SqL κ.K H p (bs.map V.bl)/\Q (.bl (bs.any id)) H):=by rw[<-hK];exact Pc hc
def HU (hK:X.K=κ.K):yy X (.type "list") (fun xs H Q=> ∃p ys,xs=[.ref p]/\(SqL κ.K H p ys\/SqT κ.K H p ys)/\∀l,H l=none->Q (.ref l) (zi H l (.lst ys))):=by rw[<-hK];exact OF
instance {x:Int}:Decidable (InLong x):=inferInstanceAs (Decidable (_/\_))
def AX:Int->List Int->Bool
 |_,[]=>true
 |a,x::r=>decide (InLong x) && decide (InLong (a+x)) && AX (a+x) r
theorem KI:∀{ns:List Int} {a:Int},AX a ns=true->∀j,j<ns.length->InLong (ns.getD j 0)/\InLong (a+(ns.take (j+1)).sum)
 | [],_,_,j,h=>by simp at h
 |x::r,a,e,j,h=>by
  simp only[AX,Ar,Bq]at e;cases j with
  |zero=>simpa using e.1
  |succ j=>
   have:=KI (a:=a+x) e.2 j (by simpa using h)
   rw[List.take_succ_cons,List.sum_cons,<-Int.add_assoc];simpa using this
def bSum:FB:=fun s h fs=>match fs with
 | [f]=>match rdl s h f with
  |some xs=>match zF int3 xs with
   |some ns=>if AX 0 ns=true then some (.v (.int ns.sum)) else none
   |none=>none
  |none=>none
 |_=>none
def Qk:ql κ (fun xs H Q=> ∃(p:Addr) (ns:List Int),xs=[.ref p]/\SqL κ.K H p (ns.map V.int)/\HC ns/\Q (.int ns.sum) H) bSum:=fun F σ H fs z vs Q rel r e k=>by
 unfold bSum at e
 split at e
 .rename_i f
  obtain⟨v,rfl,rv⟩:=p1 r;cases q1:rdl F.s F.h f with
  |none=>rw[q1]at e;cases e
  |some xs=>
   rw[q1]at e;cases q2:zF int3 xs with
   |none=>simp only[q2]at e;cases e
   |some bs=>
    simp only[q2]at e;obtain⟨h,rfl⟩:=qr e;obtain⟨a,ys,rfl,sq,rs⟩:=AB rel rv q1;exact⟨a,bs,rfl,by rw[<-HR rs q2];exact sq,fun j hj=>by have:=KI h j hj;rw[Int.zero_add]at this;exact this,k _ H Ext.refl ⟨rel,.int _⟩⟩
 .cases e
def Ql (hK:X.K=κ.K) (hc:X.calm=true):yy X (.builtin "sum") (fun xs H Q=> ∃(p:Addr) (ns:List Int),xs=[.ref p]/\SqL κ.K H p (ns.map V.int)/\HC ns/\Q (.int ns.sum) H):=by rw[<-hK];exact Pd hc
def ty3 (s:S3) (h:H3):Rf->Option String
 |.x .non=>some "NoneType"
 |.x (.bl _)=>some "bool"
 |.x (.int _)=>some "int"
 |.x (.str _)=>some "str"
 |.x (.tup _)=>some "tuple"
 |.x (.scr _)=>none
 |f=>(rdl s h f).map fun _=>"list"
def isa (t T:String):Option Bool:=
 if T="int" then some (t=="int" || t=="bool") else if T="bool" \/T="str" \/T="list" \/T="tuple" then some (t==T) else none
def bIsT:FB:=fun s h fs=>match fs with
 | [f,.x (.ty T)]=>match ty3 s h f with
  |some t=>(isa t T).map fun b=>.v (.bl b)
  |none=>none
 |_=>none
def Qm {K:FG} {t T:String} {b:Bool} (ht:t∈["NoneType","bool","int","str","tuple","list"]) (e:isa t T=some b):PySem.W.kitOne K (.type t) (.type T)=some b:=by
 unfold isa at e;have hT:T∈["int","bool","str","list","tuple"]:=by
  by_cases h:T="int"
  .simp[h]
  .rw[Ac h]at e
   by_cases h2:T="bool" \/T="str" \/T="list" \/T="tuple"
   .simp only[Ae,Bg,Bb];exact .inr h2
   .rw[Ac h2]at e;cases e
 simp only[Ae,Bg,Bb]at ht hT
 rcases ht with rfl|rfl|rfl|rfl|rfl|rfl<;>rcases hT with rfl|rfl|rfl|rfl|rfl<;>(simp at e;subst e;rfl)
def Qn {f:Rf} {v:V} {t:String} (rel:Rel κ F σ H) (r:RfR κ F H f v) (e:ty3 F.s F.h f=some t):t∈["NoneType","bool","int","str","tuple","list"]/\TyOf κ.K H v (.type t):=by
 have lists:∀{f:Rf} {v:V} {t:String},RfR κ F H f v->(∀ns,f≠ .x (.scr ns))->((rdl F.s F.h f).map fun _=>"list")=some t->t∈["NoneType","bool","int","str","tuple","list"]/\TyOf κ.K H v (.type t):=by
  intro f v t r hf e;cases q:rdl F.s F.h f with
  |none=>rw[q]at e;cases e
  |some xs=>
   rw[q]at e;cases e;have q2:rdm F.s F.h f=some xs:=by
    unfold rdm
    split
    .rename_i ns;exact absurd rfl (hf ns)
    .exact q
   obtain⟨a,ys,rfl,ha,_⟩:=CA rel r q2;exact⟨by simp,.lst ha⟩
 cases f with
 |s i=>exact lists r (fun _ z=>nomatch z) e
 |x y=>
  cases y with
  |non=>cases e;cases (show Rep κ F.β F.O H .non v from r);exact⟨by simp,.non⟩
  |bl b=>cases e;cases (show Rep κ F.β F.O H (.bl b) v from r);exact⟨by simp,.bl b⟩
  |int b=>cases e;cases (show Rep κ F.β F.O H (.int b) v from r);exact⟨by simp,.int b⟩
  |str b=>cases e;cases (show Rep κ F.β F.O H (.str b) v from r);exact⟨by simp,.str b⟩
  |tup xs=>cases e;cases (show Rep κ F.β F.O H (.tup xs) v from r) with|tup h1 _ _ _=>exact⟨by simp,.tup h1⟩
  |scr ns=>cases e
  |lst xs=>exact lists r (fun _ z=>nomatch z) e
  |loc n=>exact lists r (fun _ z=>nomatch z) e
  |_=>cases e
def AY:ql κ (fun xs H Q=> ∃x T t b,xs=[x,.ty T]/\TyOf κ.K H x t/\PySem.W.kitOne κ.K t (.type T)=some b/\Q (.bl b) H) bIsT:=fun F σ H fs z vs Q rel r e k=>by
 unfold bIsT at e
 split at e
 .rename_i f T
  obtain⟨v,w,rfl,rv,rw'⟩:=p2 r;cases (show Rep κ F.β F.O H (.ty T) w from rw')
  cases q1:ty3 F.s F.h f with
  |none=>rw[q1]at e;cases e
  |some t=>
   rw[q1]at e;cases q2:isa t T with
   |none=>simp only[q2]at e;cases e
   |some b=>
    simp only[q2]at e;cases e;obtain⟨h1,h2⟩:=Qn rel rv q1;exact⟨v,T,_,b,rfl,h2,Qm h1 q2,k _ H Ext.refl ⟨rel,.bl _⟩⟩
 .cases e
def AZ (hK:X.K=κ.K):yy X (.builtin "isinstance") (fun xs H Q=> ∃x T t b,xs=[x,.ty T]/\TyOf κ.K H x t/\PySem.W.kitOne κ.K t (.type T)=some b/\Q (.bl b) H):=by rw[<-hK];exact Pa
def tru3 (s:S3) (h:H3):Rf->Option Bool
 |.x .non=>some false
 |.x (.bl b)=>some b
 |.x (.int i)=>some (i !=0)
 |.x (.str y)=>if y.length<=sizeLine then some ((y.length:Int) !=0) else none
 |.x (.tup xs)=>some (!xs.isEmpty)
 |f=>(rdl s h f).map fun xs=> !xs.isEmpty
def tP (p:P3):T3:=fun s h=>(p s h).bind fun f h1=>match tru3 s h1 f with
 |some b=>.ok b h1
 |none=>.no
def KJ {xs:List V3} {ys:List V} (r:Reps κ F.β F.O H xs ys):xs.isEmpty=ys.isEmpty:=by cases r<;>rfl
def Qo {f:Rf} {v:V} {b:Bool} (rel:Rel κ F σ H) (r:RfR κ F H f v) (e:tru3 F.s F.h f=some b):TruV κ.K v H b:=by
 have lists:∀{f:Rf} {v:V} {b:Bool},RfR κ F H f v->((rdl F.s F.h f).map fun xs=> !xs.isEmpty)=some b->TruV κ.K v H b:=by
  intro f v b r e;cases q:rdl F.s F.h f with
  |none=>rw[q]at e;cases e
  |some xs=>
   rw[q]at e;cases e;obtain⟨a,ys,rfl,sq,rs⟩:=AB rel r q;exact .inl ⟨ys,sq,by show (!xs.isEmpty)=_;rw[KJ rs]⟩
 cases f with
 |s i=>exact lists r e
 |x y=>
  cases y with
  |non=>cases e;cases (show Rep κ F.β F.O H .non v from r);rfl
  |bl b=>cases e;cases (show Rep κ F.β F.O H (.bl b) v from r);rfl
  |int b=>cases e;cases (show Rep κ F.β F.O H (.int b) v from r);rfl
  |str b=>cases (show Rep κ F.β F.O H (.str b) v from r);obtain⟨h,rfl⟩:=qr e;exact⟨h,rfl⟩
  |tup xs=>cases e;cases (show Rep κ F.β F.O H (.tup xs) v from r) with|tup h1 _ _ h4=>exact .inr (.inl ⟨_,.of h1,by rw[KJ h4]⟩)
  |scr ns=>exact lists r e
  |lst xs=>exact lists r e
  |loc n=>exact lists r e
  |_=>cases e
def KL {a:Expr} {d:P3} (hK:X.K=κ.K) (ha:PE X a (zj κ E d)) (he:∀whole,isTrue a X.env whole=(do let v <-whole;standAt a.pos;holding [v] (truthy v)):=by intro _;rfl):PT X a (zI κ E (tP d)):=PTw (NS ha he) fun σ H Q ⟨F,rel,o⟩=>
 (zO (K:=kP κ) km_T rel o).mono fun v H1 ⟨β1,h1,f,e1,⟨r1,rf⟩,o1⟩=>by
  cases q:tru3 F.s h1 f with
  |none=>simp only[q]at o1;exact o1.elim
  |some b=>
   simp only[q]at o1;exact⟨b,by rw[hK];exact Qo (F:=F.to β1 h1) r1 rf q,o1 β1 b H1 Ext.refl ⟨rfl,r1⟩⟩
def FA (ns:List Int):List Int:=ns.mergeSort (fun a b=>decide (a<=b))
def CF (ns:List Int):(FA ns).Perm ns/\(FA ns).Pairwise (fun a b=>a<=b):=by
 refine⟨List.mergeSort_perm _ _,?_⟩
 have:=List.pairwise_mergeSort (le:=fun a b:Int=>decide (a<=b)) (fun a b c h1 h2=>by simp at*;lia) (fun a b=>by simp;lia) ns
 exact this.imp fun h=>by simpa using h
theorem KM:∀l:List Int,Reps κ F.β F.O H (l.map V3.int) (l.map V.int)
 | []=>.nil
 |x::r=>.cons (.int x) (KM r)
end
section
variable {X:Cx} {κ:Kx} {E:XK} {F F1 F2 F':Fr} {σ σ':L2.St} {H H1 H2 H':Hp} {Q:VK} {p:Addr} {e a b o:Expr} {pos apos np:Pos} {i:Nat} {D:Ends}
def qu (a:A3):I3:=fun s h=>(a s h).bind fun fs h1=>match fs with
 | [.x (.int j)]=>if -(2 ^ 62)<=j/\j<2 ^ 62 then .ok ⟨[],(List.range j.toNat).map fun k=>.int (0+(k:Nat)),fun _=>True⟩ h1 else .no
 |_=>.no
def iR2 (a:A3):I3:=fun s h=>(a s h).bind fun fs h1=>match fs with
 | [.x (.int i),.x (.int j)]=>if -(2 ^ 62)<=i/\i<2 ^ 62/\ -(2 ^ 62)<=j/\j<2 ^ 62 then .ok ⟨[],(List.range (j-i).toNat).map fun k=>.int (i+(k:Nat)),fun _=>True⟩ h1 else .no
 |_=>.no
def KN {lo:Int} {n:Nat}:IR κ ⟨[],(List.range n).map fun k=>.int (lo+(k:Nat)),fun _=>True⟩ [] (Itr lo n):=fun F σ H rel _ _ i=>by
 have el:((List.range n).map fun k=>V3.int (lo+(k:Nat))).length=n:=by simp
 refine⟨fun hi=>⟨show i<n by rw[el]at hi;exact hi,fun x H' ⟨e1,e2⟩=>?_⟩,fun hi=>show n<=i by rw[el]at hi;exact hi⟩
 subst e1;subst e2;have hi:i<n:=by simpa using hi
 exact⟨.int (lo+i),by simp[hi],Ext.refl,rel,.int _⟩
def HV {tg:Expr} {t:A3} (hg:Gl X "range") (hm:X.mg "range" =none) (ha:PA X [a] (zB κ E t)) (hs:starEach [a] X.env=[(false,eval a X.env)]:=by rfl):PI X tg (.Call (.Name "range" np) [a] [] pos) (yg κ E (qu t)):=PIw (NC hg hm ha hs) fun σ H R ⟨F,rel,o⟩=>
 (zO (K:=kA κ) km_I rel o).mono fun vs H1 ⟨β1,h1,fs,e1,⟨r1,rf⟩,o1⟩=>by
  match fs,rf,o1 with
  | [.x (.int j)],rf,o1=>
   obtain⟨v,rfl,rv⟩:=p1 rf;cases (show Rep κ β1 F.O H1 (.int j) v from rv)
   by_cases hj: -(2 ^ 62)<=j/\j<2 ^ 62
   .simp only[Aa hj]at o1
    exact⟨j,rfl,hj.1,hj.2,o1 β1 _ H1 Ext.refl ⟨r1,[],.nil,KN⟩⟩
   .simp only[Ac hj]at o1;exact o1.elim
def KO {tg:Expr} {t:A3} (hg:Gl X "range") (hm:X.mg "range" =none) (ha:PA X [a,b] (zB κ E t)) (hs:starEach [a,b] X.env=[(false,eval a X.env),(false,eval b X.env)]:=by rfl) (hs2:starEach [b] X.env=[(false,eval b X.env)]:=by rfl):PI X tg (.Call (.Name "range" np) [a,b] [] pos) (yg κ E (iR2 t)):=PIw (ND hg hm ha hs hs2) fun σ H R ⟨F,rel,o⟩=>
 (zO (K:=kA κ) km_I rel o).mono fun vs H1 ⟨β1,h1,fs,e1,⟨r1,rf⟩,o1⟩=>by
  match fs,rf,o1 with
  | [.x (.int i),.x (.int j)],rf,o1=>
   obtain⟨v,w,rfl,rv,rw'⟩:=p2 rf;cases (show Rep κ β1 F.O H1 (.int i) v from rv)
   cases (show Rep κ β1 F.O H1 (.int j) w from rw')
   by_cases hj: -(2 ^ 62)<=i/\i<2 ^ 62/\ -(2 ^ 62)<=j/\j<2 ^ 62
   .simp only[Aa hj]at o1
    exact⟨i,j,rfl,hj,o1 β1 _ H1 Ext.refl ⟨r1,[],.nil,KN⟩⟩
   .simp only[Ac hj]at o1;exact o1.elim
def FC (a:A3):I3:=fun s h=>(a s h).bind fun fs h1=>match fs with
 | [.x x]=>match yn h1 x with
  |some (xs,ok)=>.ok ⟨[x],(List.range xs.length).map fun k=>.tup [.int (k:Nat),xs.getD k .non],ok⟩ h1
  |none=>.no
 |_=>.no
def HW (a:A3):I3:=fun s h=>(a s h).bind fun fs h1=>match fs with
 | [.x x,.x y]=>match yn h1 x,yn h1 y with
  |some (xs,ok),some (ys,ok')=>.ok ⟨[x,y],(xs.zip ys).map fun q=>.tup [q.1,q.2],fun h=>ok h/\ok' h⟩ h1
  |_,_=>.no
 |_=>.no
def Rel.tup2 {x y:V3} {v w:V} {T:Addr} (rel:Rel κ F σ H) (hT:H T=none) (rx:Rep κ F.β F.O H x v) (ry:Rep κ F.β F.O H y w):Ext No F.β H F.β (zi H T (.tup [v,w]))/\Rel κ F σ (zi H T (.tup [v,w]))/\Rep κ F.β F.O (zi H T (.tup [v,w])) (.tup [x,y]) (.ref T):=by
 have q:=Post.tup (N:=No) rel hT (.cons rx (.cons ry .nil));exact⟨yE hT,q.1,q.2⟩
def KP {elts:List Expr} {x1} {tp:Pos} {t:A3} (hK:X.K=κ.K) (hg:Gl X "enumerate") (hm:X.mg "enumerate" =none) (ha:PA X [a] (zB κ E t)) (hs:starEach [a] X.env=[(false,eval a X.env)]:=by rfl):PI X (.Tuple elts x1 tp) (.Call (.Name "enumerate" np) [a] [] pos) (yg κ E (FC t)):=PIw (PH hg hm ha hs) fun σ H R ⟨F,rel,o⟩=>
 (zO (K:=kA κ) km_I rel o).mono fun vs H1 ⟨β1,h1,fs,e1,⟨r1,rf⟩,o1⟩=>by
  match fs,rf,o1 with
  | [.x x],rf,o1=>
   obtain⟨v,rfl,rv⟩:=p1 rf;have rv:Rep κ β1 F.O H1 x v:=rv;cases q:yn h1 x with
   |none=>simp only[q]at o1;exact o1.elim
   |some w=>
    obtain⟨xs,ok⟩:=w;simp only[q]at o1;obtain⟨c,ys,rfl,sq,rs⟩:=AD (F:=F.to β1 h1) q r1 rv (AW q).1;rw[hK]
    refine⟨c,ys,rfl,sq,o1 β1 _ H1 Ext.refl ⟨r1,[.ref c],.cons rv .nil,fun F' σ' H' rel' r' hk i=>?_⟩⟩
    cases r' with
    |cons r'' _=>
     obtain⟨c',ys',ec,sq',rs'⟩:=AD q rel' r'' hk;cases ec;have hl:=rs'.length;have el:(((List.range xs.length).map fun k=>V3.tup [.int (k:Nat),xs.getD k .non])).length=xs.length:=by simp
     refine⟨fun hi=>?_,fun hi=>⟨ys',sq',by rw[<-hl];rw[el]at hi;exact hi⟩⟩
     rw[el]at hi;obtain⟨y,hy,ry⟩:=rs'.get (zH hi)
     refine⟨⟨ys',y,sq',hy⟩,fun x' H'' yl=>?_⟩
     obtain⟨T,z,rfl,hT,rfl,hz⟩:=yl;have:=hz ys' sq';rw[hy]at this;cases this;obtain⟨q1,q2,q3⟩:=Rel.tup2 (x:= .int (i:Nat)) (v:= .int (i:Nat)) rel' hT (.int _) ry
     refine⟨.tup [.int (i:Nat),xs[i]],?_,q1,q2,q3⟩
     simp[hi]
def Qp {elts:List Expr} {x1} {tp:Pos} {t:A3} (hK:X.K=κ.K) (hg:Gl X "zip") (hm:X.mg "zip" =none) (ha:PA X [a,b] (zB κ E t)) (hs:starEach [a,b] X.env=[(false,eval a X.env),(false,eval b X.env)]:=by rfl) (hs2:starEach [b] X.env=[(false,eval b X.env)]:=by rfl):PI X (.Tuple elts x1 tp) (.Call (.Name "zip" np) [a,b] [] pos) (yg κ E (HW t)):=PIw (Pg hg hm ha hs hs2) fun σ H R ⟨F,rel,o⟩=>
 (zO (K:=kA κ) km_I rel o).mono fun vs H1 ⟨β1,h1,fs,e1,⟨r1,rf⟩,o1⟩=>by
  match fs,rf,o1 with
  | [.x x,.x y],rf,o1=>
   obtain⟨v,w,rfl,rv,rw'⟩:=p2 rf;have rv:Rep κ β1 F.O H1 x v:=rv;have rw':Rep κ β1 F.O H1 y w:=rw';cases q:yn h1 x with
   |none=>simp only[q]at o1;exact o1.elim
   |some w=>
    obtain⟨xs,ok⟩:=w;cases q2:yn h1 y with
    |none=>simp only[q,q2]at o1;exact o1.elim
    |some w'=>
     obtain⟨ys,ok'⟩:=w';simp only[q,q2]at o1;obtain⟨c,us,rfl,sq,rs⟩:=AD (F:=F.to β1 h1) q r1 rv (AW q).1;obtain⟨d,ws,rfl,sq2,rs2⟩:=AD (F:=F.to β1 h1) q2 r1 rw' (AW q2).1;rw[hK]
     refine⟨c,d,us,ws,rfl,sq,sq2,o1 β1 _ H1 Ext.refl ⟨r1,[.ref c,.ref d],.cons rv (.cons rw' .nil),fun F' σ' H' rel' r' hk i=>?_⟩⟩
     cases r' with
     |cons ra r''=>
      cases r'' with
      |cons rb _=>
       obtain⟨c',us',ec,sq',rs'⟩:=AD q rel' ra hk.1;cases ec;obtain⟨d',ws',ed,sq2',rs2'⟩:=AD q2 rel' rb hk.2;cases ed;have hl:=rs'.length;have hl2:=rs2'.length;have el:((xs.zip ys).map fun q=>V3.tup [q.1,q.2]).length=min xs.length ys.length:=by simp
       refine⟨fun hi=>?_,fun hi=>⟨us',ws',sq',sq2',by rw[<-hl,<-hl2];rw[el]at hi;lia⟩⟩
       rw[el]at hi;have h1:i<xs.length:=by lia
       have h2:i<ys.length:=by lia
       obtain⟨y1,hy1,ry1⟩:=rs'.get (zH h1);obtain⟨y2,hy2,ry2⟩:=rs2'.get (zH h2)
       refine⟨⟨us',ws',y1,y2,sq',sq2',hy1,hy2⟩,fun x' H'' yl=>?_⟩
       obtain⟨T,z1,z2,rfl,hT,rfl,hz1,hz2⟩:=yl;have t1:=hz1 us' sq';have t2:=hz2 ws' sq2';rw[hy1]at t1;cases t1;rw[hy2]at t2;cases t2;obtain⟨q1,q2,q3⟩:=Rel.tup2 rel' hT ry1 ry2
       refine⟨.tup [xs[i],ys[i]],?_,q1,q2,q3⟩
       rw[A9,(List.getElem?_zip_eq_some (z:=(xs[i],ys[i]))).mpr ⟨zH h1,zH h2⟩];rfl
def z8 (n:Nat) (fr:List Nat) (s:S3):S3:=List.replicate n none++fr.map fun j=>match s[j]? with
 |some (some (.v x))=>some (.v x)
 |_=>none
open Classical in
def yF (ok:H3->Prop) (g:G3) (c:T3) (e:E3):List V3->List V3->S3->H3->Res (List V3)
 | [],acc,_,h=>if ok h then .ok acc h else .no
 |x::r,acc,s,h=>if ok h then match g x s with
  |none=>.no
  |some s1=>match c s1 h with
   |.ok true h1=>match e s1 h1 with
    |.ok v h2=>match v.fz with
     |some y=>if acc.length<sizeLine then yF ok g c e r (acc++[y]) s1 h2 else .no
     |none=>.no
    |_=>.no
   |.ok false h1=>yF ok g c e r acc s1 h1
   |_=>.no
  else .no
def yt (n:Nat) (fr:List Nat) (it:I3) (g:G3) (c:T3) (e:E3):E3:=fun s h=>(it s h).bind fun I h1=>(yF I.ok g c e I.xs [] (z8 n fr s) h1).bind fun vs h2=>.ok (.m (.lst vs)) h2
def tTru:T3:=fun _ h=>.ok true h
def DN:PTs X [] (zI κ E tTru):=fun pins s σ H Q I ⟨F,rel,o⟩=>OW pins s σ H Q I (o F.β true H Ext.refl ⟨rfl,rel⟩)
def HX {c:Expr} {t:T3} (h:PT X c (zI κ E t)):PTs X [c] (zI κ E t):=OX h
def DO {β:AO} {d:Addr} {o:HO} (ho:∃u,H d=some u):Ext (fun a=>a=d) β H β (zi H d o):=
 ⟨fun a u ha hn m=>⟨by rw[zy m];exact ha,hn⟩,Ag _,fun _ _ _ h=>h,fun a u ha=>by
  by_cases z:a=d
  .subst z;exact⟨o,z6⟩
  .exact⟨u,by rw[zy z];exact ha⟩,nwb0⟩
def RelH.wrO {O:Addr->Prop} {β:AO} {h:H3} {d:Addr} {u:HO} (r:RelH κ O β h H) (hd:O d) (hu:∀ys,u≠HO.tup ys:=by intro _ z;cases z):RelH κ O β h (zi H d u):=by
 have ex:=DO (β:=β) (o:=u) (r.trk' d hd);have th:∀a w,H a=some w->(∀ys,w≠HO.tup ys)->∃w,zi H d u a=some w/\∀ys,w≠HO.tup ys:=fun a w q n=>by
  by_cases z:a=d
  .subst z;exact⟨u,z6,hu⟩
  .exact⟨w,by rw[zy z];exact q,n⟩
 refine⟨r.len,r.inj,r.off,fun a ha=>let ⟨w,q,n⟩:=r.trk a ha;th a w q n,fun i a q=>let ⟨w,z,n⟩:=r.btr i a q;th a w z n,fun i c hc=>(r.cell i c hc).imp id fun ⟨a,ha,q⟩=>⟨a,ha,q.ext ex (fun b hb=>by rw[hb];exact hd) (fun _ _ _ n=>n) fun w hw=>?_⟩⟩
 rw[zy (fun z=>by subst z;exact r.off a hd (Ap ha))];exact hw
def Rel.wrOi {d:Addr} {u:HO} (r:Rel κ F σ H) (hd:F.Oi d) (hu:∀ys,u≠HO.tup ys:=by intro _ z;cases z):Rel κ F σ (zi H d u) where
 heap:=r.heap.wrO (.inr (.inr hd)) hu
 slen:=r.slen
 llen:=r.llen
 linj:=r.linj
 lt:=r.lt
 lo:=r.lo
 to:=r.to
 tn:=r.tn
 slot:=fun i x q=>by
  have hO:F.O d:= .inr (.inr hd);have ex:=DO (β:=F.β) (o:=u) (r.heap.trk' d hO);obtain⟨v,h1,h2⟩:=r.slot i x q
  refine⟨v,h1,?_⟩
  cases x with
  |v x=>exact Rep.ext ex (fun b hb=>by rw[hb];exact hO) (fun _ _ _ n=>n) h2
  |m c=>
   obtain⟨a,a1,a2,a3⟩:=h2
   refine⟨a,a1,a2,a3.ext ex (fun b hb=>by rw[hb];exact hO) (fun _ _ _ n=>n) fun w hw=>?_⟩
   rw[zy (fun z=>by subst z;exact r.lo a (Ap a1) hd)];exact hw
def Qq {n:Nat} {fr:List Nat} {s:S3} {i:Nat} {x:Vl} (h:(z8 n fr s)[i]? =some (some x)):∃j y,fr[i-n]? =some j/\n<=i/\s[j]? =some (some (.v y))/\x=.v y:=by
 unfold z8 at h
 by_cases hi:i<n
 .rw[A8 (by simpa using hi),Fj]at h
  split at h<;>cases h
 .rw[Bo (by simpa using hi),Dd,A9]at h
  cases q:fr[i-n]? with
  |none=>rw[q]at h;cases h
  |some j=>
   rw[q]at h;simp only[Bh,B0]at h
   split at h
   .rename_i y hy;cases h;exact⟨j,y,rfl,by lia,hy,rfl⟩
   .cases h
def KQ {n:Nat} {fr:List Nat} {it:I3} {g:G3} {c:T3} {d:E3} (h:zh κ E (yt n fr it g c d) σ H Q):Gx (yg κ E it) n fr (yx κ g) (zI κ E0 c) (zh κ E0 d) σ H Q:=by
 obtain⟨F,rel,o⟩:=h
 refine (zO (K:=kI κ) zE rel o).mono fun J H1 ⟨β1,h1,I,e1,⟨r1,vs,rv,ir⟩,o1⟩=>fun D hD=>?_
 have hDH:H D=none:=e1.nw D hD
 let Oi:Addr->Prop:=fun a=>a=D\/F.O a
 have rn:=(r1.new (o:= .lst []) hD);have rh1:RelH κ Oi β1 h1 (zi H1 D (.lst [])):=rn.1.heap.sub fun a ha=>ha.elim (fun z=>.inl (by rw[z];exact Aj)) fun z=>Fr.O_with z
 have hO1:∀a u,H1 a=some u->¬F.O a->¬Oi a:=fun a u ha n z=>z.elim (fun w=>by subst w;rw[hD]at ha;cases ha) n
 let F0:Fr:=⟨Oi,[],β1,List.replicate (z8 n fr F.s).length none,z8 n fr F.s,h1⟩
 have sub0:∀(F':Fr),F'.T=[]->(∀a,some a∉F'.l)->F'.Oi=Oi->∀a,F'.O a->Oi a:=fun F' t l oi a ha=>by
  rcases ha with z|z|z
  .rw[t]at z;cases z
  .exact absurd z (l a)
  .rw[oi]at z;exact z
 have hlen:(z8 n fr F.s).length=(cst n fr σ).length:=by unfold z8 cst;simp
 have rel0:Rel κ F0 (cst n fr σ) (zi H1 D (.lst [])):=by
  refine⟨rh1.sub (sub0 F0 rfl (fun a=>qQ) rfl),hlen,?_,fun i j a h=>absurd (Ap h) qQ,fun a ha=>absurd ha qQ,fun a ha=>absurd ha qQ,fun a ha=>(by cases ha),Eh,fun i x hx=>?_⟩
  .show (List.replicate (z8 n fr F.s).length (none:Option Addr)).length=(z8 n fr F.s).length
   simp
  .obtain⟨j,y,hj,hi,hy,rfl⟩:=Qq hx
   obtain⟨v,hv,rv⟩:=r1.slot j _ hy
   refine⟨v,?_,Rep.sub (sub0 F0 rfl (fun a=>qQ) rfl) (Rep.ext (yE hD) (fun _ z=>z.elim) hO1 (show Rep κ β1 F.O H1 y v from rv))⟩
   unfold cst;rw[Bo (by simpa using hi),Dd,A9,hj]
   simp[hv]
 have rv0:Reps κ β1 Oi (zi H1 D (.lst [])) I.its vs:=rv.ext (yE hD) (fun _ z=>z.elim) hO1
 refine⟨fun i m acc σ' H'=>m=I.xs.length-i/\i<=I.xs.length/\H' D=some (.lst acc)/\∃(F':Fr) (acc3:List V3),Rel κ F' σ' H'/\F'.T=[]/\(∀a,some a∉F'.l)/\F'.Oi=Oi/\Reps κ F'.β Oi H' I.its vs/\Reps κ F'.β Oi H' acc3 acc/\Ext No β1 H1 F'.β H'/\
   Out κ E (kE κ) (F.to β1 h1) σ H1 Q ((yF I.ok g c d (I.xs.drop i) acc3 F'.s F'.h).bind fun vs h2=>.ok (.m (.lst vs)) h2),
  ⟨_,rfl,Bw _,z6,F0,[],rel0,rfl,fun a=>qQ,rfl,rv0,.nil,yE hD,o1⟩,?_⟩
 rintro i m acc σ' H' ⟨rfl,hi,hacc,F',acc3,rel',ht,hl,hoi,rits,racc,ex,out⟩
 refine⟨hacc,?_⟩
 have hO:∀a,F'.O a↔Oi a:=fun a=>⟨sub0 F' ht hl hoi a,fun z=>.inr (.inr (by rw[hoi];exact z))⟩
 have eO:F'.O=Oi:=funext fun a=>propext (hO a)
 by_cases hok:I.ok F'.h
 case neg=>
  exfalso
  cases q:I.xs.drop i with
  |nil=>rw[q]at out;unfold yF at out;rw[Ac hok]at out;exact out
  |cons x r=>rw[q]at out;unfold yF at out;rw[Ac hok]at out;exact out
 obtain⟨i1,i2⟩:=ir F' σ' H' rel' (by rw[eO];exact rits) hok i
 by_cases hlt:i<I.xs.length
 .obtain⟨go,yl⟩:=i1 hlt
  refine .inr ⟨go,fun acc' σ3 H5=>H5 D=some (.lst acc')/\∃(F':Fr) (acc3:List V3),Rel κ F' σ3 H5/\F'.T=[]/\(∀a,some a∉F'.l)/\F'.Oi=Oi/\Reps κ F'.β Oi H5 I.its vs/\Reps κ F'.β Oi H5 acc3 acc'/\Ext No β1 H1 F'.β H5/\
   Out κ E (kE κ) (F.to β1 h1) σ H1 Q ((yF I.ok g c d (I.xs.drop (i+1)) acc3 F'.s F'.h).bind fun vs h2=>.ok (.m (.lst vs)) h2),fun acc' σ3 H5 n5=>⟨_,by lia,rfl,hlt,n5⟩,fun x H2 y=>?_⟩
  obtain⟨x3,ex3,ey,ry,rp⟩:=yl x H2 y;have hd:I.xs.drop i=x3::I.xs.drop (i+1):=by
   rw[E9 hlt]
   congr 1
   rw[zH hlt]at ex3;exact Option.some.inj ex3
  rw[hd]at out;unfold yF at out;rw[Aa hok]at out;cases w:g x3 F'.s with
  |none=>simp only[w]at out;exact out.elim
  |some s1=>
   simp only[w]at out
   refine⟨F',x3,s1,ry,ht,rp,w,fun F3 σ3 e3 b3 s3 h3 r3=>?_⟩
   have hl3:∀a,some a∉F3.l:=fun a ha=>by
    rcases e3.lam a ha with z|z
    .exact hl a z
    .obtain⟨k,hk⟩:=Bz ha
     obtain⟨u,hu,_⟩:=r3.heap.trk a (.inr (.inl ha));rw[z]at hu;cases hu
   have hoi3:F3.Oi=Oi:=e3.oi.trans hoi;have eO3:F3.O=Oi:=funext fun a=>propext ⟨sub0 F3 e3.tt hl3 hoi3 a,fun z=>.inr (.inr (by rw[hoi3];exact z))⟩
   refine⟨F3,r3,?_⟩
   rw[s3,h3];cases q:c s1 F'.h with
   |no=>simp only[q]at out;exact out.elim
   |ex x h2=>simp only[q]at out;exact out.elim
   |ok cb h2=>
    simp only[q]at out;rintro β4 cb' H4 e4 ⟨rfl,r4⟩;have ex4:Ext No β1 H1 β4 H4:=(ex.trans0 ey).trans0 (by rw[b3]at e4;exact e4)
    have k4:∀{x:List V3} {v:List V},Reps κ F'.β Oi H' x v->Reps κ β4 Oi H4 x v:=fun r=>(r.ext0 ey).ext0 (by rw[b3]at e4;exact e4)
    have hD2:H2 D=some (.lst acc):=(ey.keep D _ hacc (rel'.heap.off D ((hO D).mpr (.inl rfl))) fun z=>z).1
    have hD4:H4 D=some (.lst acc):=(e4.keep D _ hD2 (r3.heap.off D (by rw[eO3];exact .inl rfl)) fun z=>z).1
    cases cb' with
    |false=>rw[Ac A7];exact⟨hD4,F3.to β4 h2,acc3,r4,e3.tt,hl3,hoi3,k4 rits,k4 racc,ex4,by show Out _ _ _ _ _ _ _ ((yF I.ok g c d (I.xs.drop (i+1)) acc3 F3.s h2).bind _);rw[s3];exact out⟩
    |true=>
     rw[Aa rfl]
     refine⟨F3.to β4 h2,r4,?_⟩
     show Out κ E0 (kE κ) (F3.to β4 h2) σ3 H4 _ (d F3.s h2);rw[s3];cases q5:d s1 h2 with
     |no=>simp only[q5]at out;exact out.elim
     |ex x h5=>simp only[q5]at out;exact out.elim
     |ok r5 h5=>
      simp only[q5]at out;intro β5 v5 H5 e5 p5;cases z:r5.fz with
      |none=>simp only[z]at out;exact out.elim
      |some y5=>
       simp only[z]at out
       by_cases hsz:acc3.length<sizeLine
       .rw[Aa hsz]at out
        obtain⟨r6,rep6⟩:=Post.fz p5 z;have hD5:H5 D=some (.lst acc):=(e5.keep D _ hD4 (r4.heap.off D (.inr (.inr (by show F3.Oi D;rw[hoi3];exact .inl rfl)))) fun z=>z).1
        have ex6:Ext (fun a=>a=D) β5 H5 β5 (zi H5 D (.lst (acc++[v5]))):=DO ⟨_,hD5⟩
        have k6:∀{x:List V3} {v:List V},Reps κ β5 Oi H5 x v->Reps κ β5 Oi (zi H5 D (.lst (acc++[v5]))) x v:=fun r=>r.ext ex6 (fun b hb=>by rw[hb];exact .inl rfl) fun _ _ _ n=>n
        have rep6:Rep κ β5 Oi H5 y5 v5:=by
         have e:((F3.to β4 h2).to β5 h5).O=Oi:=eO3;have q:Rep κ β5 ((F3.to β4 h2).to β5 h5).O H5 y5 v5:=rep6;rw[e]at q;exact q
        have k45:∀{x:List V3} {v:List V},Reps κ β4 Oi H4 x v->Reps κ β5 Oi H5 x v:=fun r=>r.ext0 e5
        refine⟨hD5,by rw[<-racc.length];exact hsz,z6,(F3.to β4 h2).to β5 h5,acc3++[y5],Rel.wrOi r6 (by show F3.Oi D;rw[hoi3];exact .inl rfl),e3.tt,hl3,hoi3,k6 (k45 (k4 rits)),k6 ((k45 (k4 racc)).append (.cons rep6 .nil)),?_,?_⟩
        .have e45:=ex4.trans0 e5
         refine⟨fun a u ha hn _=>?_,e45.len,e45.bet,fun a u ha=>?_,e45.nwb⟩
         .obtain⟨q1,q2⟩:=e45.keep a u ha hn fun z=>z
          exact⟨by rw[zy (fun z=>by subst z;rw[hD]at ha;cases ha)];exact q1,q2⟩
         .obtain⟨u',hu'⟩:=e45.there a u ha
          exact ex6.there a u' hu'
        .show Out _ _ _ _ _ _ _ ((yF I.ok g c d (I.xs.drop (i+1)) (acc3++[y5]) F3.s h5).bind _)
         rw[s3];exact out
       .rw[Ac hsz]at out;exact out.elim
 .have hi:i=I.xs.length:=by lia
  subst hi;rw[Cf]at out;unfold yF at out;rw[Aa hok]at out
  refine .inl ⟨i2 (Ag _),out F'.β (.ref D) H' ex ?_⟩
  have rh:RelH κ (fun a=>a=D\/(F.to β1 h1).O a) F'.β F'.h H':=rel'.heap.sub fun a ha=>(hO a).mpr ha
  refine⟨D,rfl,Rel.nextNew (F:=F.to β1 h1) r1 ex rh hD,⟨acc,hacc,racc.sub fun a ha=>?_⟩,hD⟩
  rcases ha with z|z
  .rcases Ae.mp z with z|z
   .exact .inl z
   .exact .inr (.inl z)
  .exact .inr (.inr z)
def CG {elt tg iter:Expr} {ifs:List Expr} {loc free:List Str} {fr:List Nat} {scope:Scope} {it:I3} {g:G3} {c:T3} {d:E3} (hc:X.calm=true) (S:CompScope X loc free fr scope) (hi:PI X tg iter (yg κ E it))
 (hg:∀cl C s H ex,PG (yN X (loc++free) scope cl C s H ex) tg (yx κ g)) (ht:∀cl C s H ex,PTs (yN X (loc++free) scope cl C s H ex) ifs (zI κ E0 c)) (he:∀cl C s H ex,PE (yN X (loc++free) scope cl C s H ex) elt (zh κ E0 d))
 (hs:∀x,foldedSetIterable iter X.env x=pure x:=by intro _;rfl):PE X (.ListComp elt [⟨tg,iter,ifs,0⟩] scope pos) (zh κ E (yt loc.length fr it g c d)):=ym (OY hc S hi hg ht he hs) fun _ _ _ h=>KQ h
def KR {y:Str} {py spos:Pos} {elt tg iter:Expr} {ifs:List Expr} {loc free:List Str} {fr:List Nat} {scope:Scope} {it:I3} {g:G3} {c:T3} {d:E3} (hN:X.N.Nodup) (hi':X.N[i]? =some y) (hx:X.env.scope.names.lookup y=some .local) (hc:X.calm=true) (S:CompScope X loc free fr scope) (hi:PI X tg iter (yg κ E it))
 (hg:∀cl C s H ex,PG (yN X (loc++free) scope cl C s H ex) tg (yx κ g)) (ht:∀cl C s H ex,PTs (yN X (loc++free) scope cl C s H ex) ifs (zI κ E0 c)) (he:∀cl C s H ex,PE (yN X (loc++free) scope cl C s H ex) elt (zh κ E0 d))
 (hs:∀x,foldedSetIterable iter X.env x=pure x:=by intro _;rfl) (hsw:swapsWith (.ListComp elt [⟨tg,iter,ifs,0⟩] scope pos) (some (.Name y py)) spos.line X.env=pure true:=by rfl):
 PS X (.Assign [.Name y py] (.ListComp elt [⟨tg,iter,ifs,0⟩] scope pos) spos) (zp κ E (sSet i (yt loc.length fr it g c d))):=yV (OZ hN hi' hx hc S hi hg ht he hs hsw) fun D σ H h=>KQ (K4 h)
end
section
variable {X:Cx} {κ:Kx} {E:XK} {F F':Fr} {σ σ':L2.St} {H H1 H':Hp} {Q:VK} {p:Addr} {e a b c o:Expr} {pos apos np cpos:Pos} {i:Nat} {D:Ends}
def eNeg (p:P3):E3:=fun s h=>(p s h).bind fun f h1=>match f with
 |.x (.int i)=>.ok (.v (.int (-i))) h1
 |_=>.no
def qT {d:P3} (ha:PE X a (zj κ E d)):PE X (.UnaryOp .USub a pos) (zh κ E (eNeg d)):=ym (NI NJ ha) fun σ H Q ⟨F,rel,o⟩=>
 (zO (K:=kP κ) zE rel o).mono fun v H1 ⟨β1,h1,f,e1,⟨r1,rf⟩,o1⟩=>by
  match f,rf,o1 with
  |.x (.int i),rf,o1=>
   cases (show Rep κ β1 F.O H1 (.int i) v from rf)
   exact⟨i,rfl,o1 β1 _ H1 Ext.refl ⟨r1,.int _⟩⟩
def eChain (f g:F2) (a b c:P3):E3:=fun s h=>(a s h).bind fun x h1=>(b s h1).bind fun y h2=>match f s h2 x y with
 |some (.v (.bl true))=>(c s h2).bind fun z h3=>opt h3 (g s h3 y z)
 |some (.v (.bl false))=>.ok (.v (.bl false)) h2
 |_=>.no
def KS {r r':R2} {f g:F2} {da db dc:P3} (hs:OpSim κ r f) (hs':OpSim κ r' g) (h:zh κ E (eChain f g da db dc) σ H Q):Ht r r' (zj κ E da) (zj κ E db) (zj κ E dc) σ H Q:=by
 obtain⟨F,rel,o⟩:=h
 refine (zO (K:=kP κ) zE rel o).mono fun v H1 ⟨β1,h1,f1,e1,⟨r1,rf1⟩,o1⟩=>?_
 refine (zO (F:=F.to β1 h1) (K:=kP κ) zE r1 o1).mono fun w H2 ⟨β2,h2,f2,e2,⟨r2,rf2⟩,o2⟩=>?_
 have rf1':=RfR.ext (F:=F.to β1 h1) (β':=β2) (h':=h2) r1 e2 rf1;cases q:f F.s h2 f1 f2 with
 |none=>simp only[q]at o2;exact o2.elim
 |some z=>
  refine hs (F.to β2 h2) σ H2 f1 f2 z v w _ r2 rf1' rf2 q fun u H' e p=>?_
  match z,q,p with
  |.v (.bl true),q,p=>
   simp only[q]at o2;cases (show Rep κ β2 F.O H' (.bl true) u from p.2)
   refine⟨true,rfl,?_⟩
   rw[Aa rfl];have o3:=Out.move (F:=F.to β2 h2) (h':=h2) zE e o2
   refine (zO (F:=F.to β2 h2) (K:=kP κ) zE p.1 o3).mono fun w3 H3 ⟨β3,h3,f3,e3,⟨r3,rf3⟩,o4⟩=>?_
   obtain⟨z',q',k⟩:=Out.opt (F:=F.to β3 h3) rfl o4;exact hs' (F.to β3 h3) σ H3 f2 f3 z' w w3 Q r3 (RfR.ext (F:=F.to β2 h2) (β':=β3) (h':=h3) p.1 e3 (RfR.ext (F:=F.to β2 h2) (β':=β2) (h':=h2) r2 e rf2)) rf3 q' k
  |.v (.bl false),q,p=>
   simp only[q]at o2;cases (show Rep κ β2 F.O H' (.bl false) u from p.2)
   refine⟨false,rfl,?_⟩
   rw[Ac A7];exact o2 β2 _ H' e ⟨p.1,.bl _⟩
  |.v .non,q,p=>simp only[q]at o2;exact o2.elim
  |.v (.int _),q,p=>simp only[q]at o2;exact o2.elim
  |.v (.str _),q,p=>simp only[q]at o2;exact o2.elim
  |.v (.ty _),q,p=>simp only[q]at o2;exact o2.elim
  |.v (.tup _),q,p=>simp only[q]at o2;exact o2.elim
  |.v (.lst _),q,p=>simp only[q]at o2;exact o2.elim
  |.v (.scr _),q,p=>simp only[q]at o2;exact o2.elim
  |.v (.dK _),q,p=>simp only[q]at o2;exact o2.elim
  |.v (.dT _),q,p=>simp only[q]at o2;exact o2.elim
  |.v (.obj _ _),q,p=>simp only[q]at o2;exact o2.elim
  |.v (.cls _),q,p=>simp only[q]at o2;exact o2.elim
  |.v (.fn _ _),q,p=>simp only[q]at o2;exact o2.elim
  |.v (.loc _),q,p=>simp only[q]at o2;exact o2.elim
  |.m _,q,p=>simp only[q]at o2;exact o2.elim
def KU {op op':CmpOp} {r r':R2} {f g:F2} {da db dc:P3} (hs:OpSim κ r f) (hs':OpSim κ r' g) (ho:OpR X (compareOp op) r) (ho':OpR X (compareOp op') r') (ha:PE X a (zj κ E da)) (hb:PE X b (zj κ E db)) (hc:PE X c (zj κ E dc))
 (hm:lastMarks [op,op'] [b,c]=false:=by with_unfolding_all rfl):PE X (.Compare a [op,op'] [b,c] pos) (zh κ E (eChain f g da db dc)):=ym (NO ho ho' ha hb hc hm) fun _ _ _ h=>KS hs hs' h
def HY {op op':CmpOp} {r r':R2} {f g:F2} {da db dc:P3} (hs:OpSim κ r f) (hs':OpSim κ r' g) (ho:OpR X (compareOp op) r) (ho':OpR X (compareOp op') r') (ha:PE X a (zj κ E da)) (hb:PE X b (zj κ E db)) (hc:PE X c (zj κ E dc))
 (hm:lastMarks [op,op'] [b,c]=false:=by with_unfolding_all rfl):PT X (.Compare a [op,op'] [b,c] pos) (zI κ E (tE (eChain f g da db dc))):=PTw (NP ho ho' ha hb hc hm) fun _ _ _ h=>KS hs hs' (ES h)
abbrev Po3:=S3->H3->Res (Option Int)
def kO (κ:Kx):Kd (Option Int) (Option Int):=fun _ F σ H' i j=>j=i/\Rel κ F σ H'
def km_O:BO (kO κ):=fun _ _ _ _ _ _ _ _ _ _ _ h=>h
abbrev toOf (κ:Kx) (E:XK) (d:Po3):TO:=tOf κ E (kO κ) d
def qt:Po3:=fun _ h=>.ok none h
def qp (p:P3):Po3:=fun s h=>(p s h).bind fun f h1=>match f with
 |.x (.int i)=>.ok (some i) h1
 |_=>.no
def POw {e:Option Expr} {t t':TO} (h:PO X e t) (w:∀σ H Q,t' σ H Q->t σ H Q):PO X e t':=fun pins s σ H Q I q=>h pins s σ H Q I (w σ H Q q)
def FD:PO X none (toOf κ E qt):=POw O6 fun σ H Q ⟨F,rel,o⟩=>o F.β none H Ext.refl ⟨rfl,rel⟩
def FE {d:P3} (ha:PE X a (zj κ E d)):PO X (some a) (toOf κ E (qp d)):=POw (O7 ha) fun σ H Q ⟨F,rel,o⟩=>
 (zO (K:=kP κ) km_O rel o).mono fun v H1 ⟨β1,h1,f,e1,⟨r1,rf⟩,o1⟩=>by
  match f,rf,o1 with
  |.x (.int i),rf,o1=>
   cases (show Rep κ β1 F.O H1 (.int i) v from rf)
   exact⟨i,rfl,o1 β1 _ H1 Ext.refl ⟨rfl,r1⟩⟩
def zV {α:Type} (xs:List α) (lo hi:Option Int):List α:=(xs.drop (HT.sIx xs.length 0 lo)).take (HT.sIx xs.length xs.length hi-HT.sIx xs.length 0 lo)
def oSl (s:S3) (h:H3) (lo hi:Option Int):Rf->Option Vl
 |.x (.tup xs)=>if HT.sIx xs.length 0 lo=0/\HT.sIx xs.length xs.length hi=xs.length then none else some (.v (.tup (zV xs lo hi)))
 |.x (.str z)=>if z.length<=sizeLine then some (.v (.str (Txt.slice z lo hi))) else none
 |f=>(rdl s h f).map fun xs=>.m (.lst (zV xs lo hi))
def qo (p:P3) (lo hi:Po3):E3:=fun s h=>(p s h).bind fun f h1=>(lo s h1).bind fun l h2=>(hi s h2).bind fun u h3=>opt h3 (oSl s h3 l u f)
def KW {xs:List V3} {ys:List V} {lo hi:Option Int} (r:Reps κ F.β F.O H xs ys):Reps κ F.β F.O H (zV xs lo hi) (cutV ys lo hi):=by
 unfold zV cutV;rw[r.length];exact (r.drop _).take _
def r_sl {lo hi:Option Expr} {p2:Pos} {d:P3} {dl dh:Po3} (hK:X.K=κ.K) (he:PE X a (zj κ E d)) (hl:PO X lo (toOf κ E dl)) (hu:PO X hi (toOf κ E dh)):PE X (.Subscript a (.Slice lo hi none p2) pos) (zh κ E (qo d dl dh)):=
 ym (O8 (sl_tup.or (sl_list.or PB)) he hl hu) fun σ H Q ⟨F,rel,o⟩=>
 (zO (K:=kP κ) zE rel o).mono fun v H1 ⟨β1,h1,f,e1,⟨r1,rf⟩,o1⟩=>
 (zO (F:=F.to β1 h1) (K:=kO κ) zE r1 o1).mono fun l H2 ⟨β2,h2,l',e2,⟨el,r2⟩,o2⟩=>
 (zO (F:=F.to β2 h2) (K:=kO κ) zE r2 o2).mono fun u H3 ⟨β3,h3,u',e3,⟨eu,r3⟩,o3⟩=>by
  subst el;subst eu;obtain⟨z,q,k⟩:=Out.opt (F:=F.to β3 h3) rfl o3;have rf3:RfR κ (F.to β3 h3) H3 f v:=RfR.ext (F:=F.to β2 h2) (β':=β3) (h':=h3) r2 e3 (RfR.ext (F:=F.to β1 h1) (β':=β2) (h':=h2) r1 e2 rf);rw[hK];have lists:(rdl F.s h3 f).map (fun xs=>Vl.m (.lst (zV xs l u)))=some z->rSlL κ.K v l u H3 Q:=fun q=>by
   cases q1:rdl F.s h3 f with
   |none=>rw[q1]at q;cases q
   |some xs=>
    rw[q1]at q;cases q;obtain⟨c,ys,rfl,sq,rs⟩:=AB (F:=F.to β3 h3) r3 rf3 q1;exact⟨c,ys,rfl,sq,fun p hp=>k _ _ (yE hp) (Post.lst r3 hp (KW rs))⟩
  match f,rf3,q,lists with
  |.s i,rf3,q,lists=>exact .inr (.inl (lists q))
  |.x (.lst _),rf3,q,lists=>exact .inr (.inl (lists q))
  |.x (.scr _),rf3,q,lists=>exact .inr (.inl (lists q))
  |.x (.loc _),rf3,q,lists=>exact .inr (.inl (lists q))
  |.x (.tup xs),rf3,q,lists=>
   have q:(if HT.sIx xs.length 0 l=0/\HT.sIx xs.length xs.length u=xs.length then none else some (Vl.v (.tup (zV xs l u))))=some z:=q
   by_cases hw:HT.sIx xs.length 0 l=0/\HT.sIx xs.length xs.length u=xs.length
   .rw[Aa hw]at q;cases q
   .rw[Ac hw]at q;cases q
    cases (show Rep κ β3 F.O H3 (.tup xs) v from rf3) with
    |tup h1 h2 h3' h4=>exact .inl ⟨_,_,rfl,.of h1,by rw[<-h4.length];exact hw,fun p hp=>k _ _ (yE hp) (Post.tup r3 hp (KW (F:=F.to β3 h3) h4))⟩
  |.x (.str zz),rf3,q,lists=>
   obtain⟨hz,rfl⟩:=qr q;cases (show Rep κ β3 F.O H3 (.str zz) v from rf3)
   exact .inr (.inr ⟨zz,rfl,hz,k _ H3 Ext.refl ⟨r3,.str _⟩⟩)
def wr3 (s:S3) (h:H3) (c:C3):Rf->Option (S3×H3)
 |.s i=>some (s.set i (some (.m c)),h)
 |.x (.loc n)=>some (s,h.set n c)
 |_=>none
def Rel.wrSlot {l:Addr} {c0 c':C3} {u:HO} (rel:Rel κ F σ H) (hl:F.l[i]? =some (some l)) (hs:F.s[i]? =some (some (.m c0))) (hc:CellR κ F.β F.O (zi H l u) c' l):
  Rel κ {F with s:=F.s.set i (some (.m c'))} σ (zi H l u):=by
 have hO:F.O l:= .inr (.inl (Ap hl));have ex:=DO (β:=F.β) (o:=u) (rel.heap.trk' l hO)
 refine⟨rel.heap.wrO hO hc.nt,?_,?_,rel.linj,rel.lt,rel.lo,rel.to,rel.tn,fun j y hj=>?_⟩
 .show (F.s.set i _).length=_;rw[Bf];exact rel.slen
 .show F.l.length=(F.s.set i _).length;rw[Bf];exact rel.llen
 .rcases qJ hj with ⟨e1,e2⟩|⟨n,z⟩
  .subst e1;cases e2
   obtain⟨v,h1,a,h2,h3,_⟩:=rel.slot i _ hs;rw[hl]at h2;cases h2;exact⟨v,h1,l,hl,h3,hc⟩
  .obtain⟨v,h1,h2⟩:=rel.slot j y z
   refine⟨v,h1,?_⟩
   cases y with
   |v x=>exact Rep.ext ex (fun b hb=>by rw[hb];exact hO) (fun _ _ _ n=>n) h2
   |m c=>
    obtain⟨a,a1,a2,a3⟩:=h2
    refine⟨a,a1,a2,a3.ext ex (fun b hb=>by rw[hb];exact hO) (fun _ _ _ n=>n) fun w hw=>?_⟩
    rw[zy (fun z=>by subst z;exact n (rel.linj i j a hl a1))];exact hw
def HZ {β:AO} {l:Addr} {o:HO} {n:Nat} (hb:β[n]? =some (some l)) (ho:∃u,H l=some u):Ext No β H β (zi H l o):=
 ⟨fun a u ha hn _=>⟨by rw[zy (fun z=>by subst z;exact hn (Ap hb))];exact ha,hn⟩,Ag _,fun _ _ _ h=>h,fun a u ha=>by
  by_cases z:a=l
  .subst z;exact⟨o,z6⟩
  .exact⟨u,by rw[zy z];exact ha⟩,nwb0⟩
def RelH.wrLoc {O:Addr->Prop} {β:AO} {h:H3} {l:Addr} {n:Nat} {c':C3} {u:HO} (r:RelH κ O β h H) (hb:β[n]? =some (some l)) (hc:CellR κ β O (zi H l u) c' l):RelH κ O β (h.set n c') (zi H l u):=by
 have ex:=HZ (o:=u) hb (r.btr' n l hb);have th:∀a w,H a=some w->(∀ys,w≠HO.tup ys)->∃w,zi H l u a=some w/\∀ys,w≠HO.tup ys:=fun a w q n=>by
  by_cases z:a=l
  .subst z;exact⟨u,z6,hc.nt⟩
  .exact⟨w,by rw[zy z];exact q,n⟩
 refine⟨by rw[Bf];exact r.len,r.inj,r.off,fun a ha=>let ⟨w,q,n⟩:=r.trk a ha;th a w q n,fun i a q=>let ⟨w,z,n⟩:=r.btr i a q;th a w z n,fun i c hi=>?_⟩
 rcases qJ hi with ⟨e1,e2⟩|⟨ne,z⟩
 .subst e1;subst e2;exact .inr ⟨l,hb,hc⟩
 .refine (r.cell i c z).imp id fun ⟨a,ha,q⟩=>⟨a,ha,q.ext ex (fun _ z=>z.elim) (fun _ _ _ n=>n) fun w hw=>?_⟩
  rw[zy (fun z=>by subst z;exact ne (r.inj n i a hb ha))];exact hw
def KY {f:Rf} {v:V} {xs ys:List V3} {s':S3} {h':H3} (ht:F.T=[]) (rel:Rel κ F σ H) (r:RfR κ F H f v) (e:rdm F.s F.h f=some xs) (hw:wr3 F.s F.h (.lst ys) f=some (s',h')):
  ∃l us,v=.ref l/\H l=some (.lst us)/\Reps κ F.β F.O H xs us/\∀ws,Reps κ F.β F.O H ys ws->∃F',SExt F H F' (zi H l (.lst ws))/\F'.s=s'/\F'.h=h'/\Rel κ F' σ (zi H l (.lst ws)):=by
 cases f with
 |s i=>
  cases hw;obtain⟨a,c,h1,h2,h3,h4⟩:=r;have e:rdl F.s F.h (.s i)=some xs:=e;simp only[rdl,h3]at e;cases c<;>simp at e
  subst e;obtain⟨us,h5,h6⟩:=h4;have hO:F.O a:= .inr (.inl (Ap h1))
  refine⟨a,us,h2,h5,h6,fun ws hr=>⟨{F with s:=F.s.set i (some (.m (.lst ys)))},⟨⟨fun b u hb hn m=>⟨by rw[zy (fun z=>by subst z;exact m (Ap h1))];exact hb,hn⟩,Ag _,fun _ _ _ h=>h,(DO (β:=F.β) ⟨_,h5⟩).there,nwb0⟩,fun _ h=>.inl h,rfl,ht⟩,rfl,rfl,rel.wrSlot h1 h3 ⟨ws,z6,hr.ext (DO (β:=F.β) ⟨_,h5⟩) (fun b hb=>by rw[hb];exact hO) fun _ _ _ n=>n⟩⟩⟩
 |x y=>
  cases y<;>simp[wr3]at hw
  case loc n=>
   obtain⟨rfl,rfl⟩:=hw;cases r with
   |loc h1 h2=>
    have e:rdl F.s F.h (.x (.loc n))=some xs:=e;simp only[rdl]at e;cases q:F.h[n]? with
    |none=>rw[q]at e;cases e
    |some c=>
     rw[q]at e;cases c<;>simp at e
     subst e
     rcases rel.heap.cell n _ q with z|⟨a,ha,us,h5,h6⟩
     .cases z
     .have ex:=fun o=>HZ (o:=o) ha ⟨_,h5⟩
      refine⟨a,us,h2 a ha,h5,h6,fun ws hr=>⟨F.to F.β (F.h.set n (.lst ys)),SExt.of0 ht (ex _),rfl,rfl,rel.next (ex _) (rel.heap.wrLoc ha ⟨ws,z6,hr.ext0 (ex _)⟩)⟩⟩
abbrev FM:=List V3->List V3->Option (List V3×V3)
def mtO (op:FM) (p:P3) (a:A3) (k:S3->H3->V3->O3):D3:=fun s h=>(p s h).bindS fun f h1=>match rdm s h1 f with
 |none=>.no
 |some _=>(a s h1).bindS fun fs h2=>match vals3 fs,rdm s h2 f with
  |some vs,some xs=>match op xs vs with
   |some (ys,r)=>match wr3 s h2 (.lst ys) f with
    |some (s3,h3)=>k s3 h3 r
    |none=>.no
   |none=>.no
  |_,_=>.no
def yW (op:FM) (p:P3) (a:A3):D3:=mtO op p a fun s h _=>.nx s h
def CH (κ:Kx) (r:V->List V->Hp->VK->Prop) (op:FM):Prop:=∀(β:AO) (O:Addr->Prop) (H:Hp) (l:Addr) (xs ys vs:List V3) (us ws:List V) (rt:V3) (Q:VK),H l=some (.lst us)->Reps κ β O H xs us->Reps κ β O H vs ws->op xs vs=some (ys,rt)->
 (∀us' rt',Reps κ β O H ys us'->Rep κ β O H rt rt'->Q rt' (zi H l (.lst us')))->r (.ref l) ws H Q
def KZ {r:V->List V->Hp->VK->Prop} {op:FM} {dp:P3} {da:A3} {k:S3->H3->V3->O3} (hs:CH κ r op) (rel:Rel κ F σ H) (ht:F.T=[]) (o:SOut κ E F H D (mtO op dp da k F.s F.h)) {Q:VK}
  (hQ:∀F' rt Fm Hm v H3,SExt Fm Hm F' H3->F'.s.length=F.s.length->Rel κ F' σ H3->Rep κ F'.β F'.O H3 rt v->SOut κ E Fm Hm D (k F'.s F'.h rt)->Q v H3):
  tBM κ.K "list" r (zj κ E dp) (zB κ E da) σ H Q:=by
 refine (bindS (K:=kP κ) rel ht o).mono fun v H1 ⟨β1,h1,f,e1,⟨r1,rf⟩,o1⟩=>?_
 cases q:rdm F.s h1 f with
 |none=>simp only[q]at o1;exact o1.elim
 |some xs0=>
  simp only[q]at o1;obtain⟨a,ys,rfl,ha,_⟩:=CA (F:=F.to β1 h1) r1 rf q
  refine⟨.inl ⟨rfl,ys,.of ha⟩,?_⟩
  have s1:SExt F H (F.to β1 h1) H1:=SExt.of0 ht e1
  refine (bindS (F:=F.to β1 h1) (K:=kA κ) r1 ht (SOut.move s1 o1)).mono fun ws H2 ⟨β2,h2,fs,e2,⟨r2,rfs⟩,o2⟩=>?_
  have rf2:=RfR.ext (F:=F.to β1 h1) (β':=β2) (h':=h2) r1 e2 rf;have s2:SExt (F.to β1 h1) H1 (F.to β2 h2) H2:=SExt.of0 (F:=F.to β1 h1) ht e2;cases q1:vals3 fs with
  |none=>simp only[q1]at o2;exact o2.elim
  |some vs=>
   cases q2:rdm F.s h2 f with
   |none=>simp only[q1,q2]at o2;exact o2.elim
   |some xs=>
    simp only[q1,q2]at o2;cases q3:op xs vs with
    |none=>simp only[q3]at o2;exact o2.elim
    |some w=>
     obtain⟨zs,rt⟩:=w;simp only[q3]at o2;cases q4:wr3 F.s h2 (.lst zs) f with
     |none=>simp only[q4]at o2;exact o2.elim
     |some w=>
      obtain⟨s3,h3⟩:=w;simp only[q4]at o2;obtain⟨l,us,ev,hl,rs,wk⟩:=KY (F:=F.to β2 h2) ht r2 rf2 q2 q4;cases ev
      refine hs β2 F.O H2 a xs zs vs us ws rt _ hl rs (BP rfs q1) q3 fun us' rt' r1' r2'=>?_
      obtain⟨F',e',es,eh,rel'⟩:=wk us' r1'
      refine hQ F' rt (F.to β2 h2) H2 _ _ e' (by rw[rel'.slen,<-rel.slen]) rel' (Rep.sext (F:=F.to β2 h2) e' r2') ?_
      rw[es,eh];exact SOut.move s2 o2
def BB {es:List Expr} {name:Str} {id:String} {r:V->List V->Hp->VK->Prop} {op:FM} {dp:P3} {da:A3} (hs:CH κ r op) (hK:X.K=κ.K) (slot:Slot "list" name id) (hty:typeOf (.builtin id)=pure (.type "method_descriptor")) (hm:MtR X id r) (ho:PE X o (zj κ E dp)) (ha:PA X (e::es) (zB κ E da))
  (hbase:attributeBase o name X.env (eval o X.env)=eval o X.env:=by rfl)
  (hfew:((backTo cpos (starEach (e::es) X.env)).all (fun x=> !x.1) && (backToKw cpos (keywordEach [] X.env)).all (fun x=>x.1.isSome)
   && decide ((e::es).length+([]:List Keyword).length+(if ([]:List Keyword).isEmpty then 0 else 1)<30))=true:=by rfl)
  (hline:(apos.endLine==cpos.line)=true:=by rfl) (hst:SE X e es:=by rfl) (hplain:(backTo cpos (starEach es X.env)).any (·.1)=false:=by rfl)
  (hsw:swapsWith (.Call (.Attribute o name apos) (e::es) [] cpos) none pos.line X.env=pure false:=by rfl):
  PS X (.Expr (.Call (.Attribute o name apos) (e::es) [] cpos) pos) (zp κ E (yW op dp da)):=yV (EE (OH PySem.F.plainAttrs_list slot hty hm ho ha hbase hfew hline hst hplain) hsw) fun D σ H ⟨F,rel,ht,o⟩=>by
 rw[hK];exact KZ hs rel ht o fun F' rt Fm Hm v H3 e' _ rel' _ o'=>o' F' σ H3 e' rfl rfl rel'
def La {name:Str} {id:String} {r:V->List V->Hp->VK->Prop} {op:FM} {dp:P3} (hs:CH κ r op) (hK:X.K=κ.K) (slot:Slot "list" name id) (hty:typeOf (.builtin id)=pure (.type "method_descriptor")) (hm:MtR X id r) (ho:PE X o (zj κ E dp))
  (hbase:attributeBase o name X.env (eval o X.env)=eval o X.env:=by rfl) (hline:(apos.endLine==cpos.line)=true:=by rfl) (hsw:swapsWith (.Call (.Attribute o name apos) [] [] cpos) none pos.line X.env=pure false:=by rfl):
  PS X (.Expr (.Call (.Attribute o name apos) [] [] cpos) pos) (zp κ E (yW op dp aNil)):=yV (EE (OG PySem.F.plainAttrs_list slot hty hm ho hbase hline) hsw) fun D σ H ⟨F,rel,ht,o⟩=>by
 rw[hK]
 refine tOf.mono (KZ (Q:=fun _ H1=>D.nx σ H1) hs rel ht o fun F' rt Fm Hm v H3 e' _ rel' _ o'=>o' F' σ H3 e' rfl rfl rel') fun x H1 ⟨h1,F1,r1,h2⟩=>⟨h1,h2 F1.β [] H1 Ext.refl ⟨r1,.nil⟩⟩
def yZ:FM:=fun xs vs=>match vs with
 | [y]=>if xs.length<sizeLine then some (xs++[y],.non) else none
 |_=>none
def CI:CH κ Ki yZ:=fun β O H l xs ys vs us ws rt Q hl rx rv e k=>by
 unfold yZ at e
 split at e
 .obtain⟨h,e⟩:=qr e
  cases e;cases rv with
  |cons a t=>cases t;exact⟨l,us,_,rfl,rfl,hl,by rw[<-rx.length];exact h,k _ _ (rx.append (.cons a .nil)) .non⟩
 .cases e
def mPop:FM:=fun xs vs=>match vs with
 | []=>match xs[xs.length-1]? with
  |some y=>some (xs.dropLast,y)
  |none=>none
 |_=>none
def Qr:CH κ rPop mPop:=fun β O H l xs ys vs us ws rt Q hl rx rv e k=>by
 unfold mPop at e
 split at e
 .cases rv
  cases q:xs[xs.length-1]? with
  |none=>rw[q]at e;cases e
  |some y=>
   rw[q]at e;cases e;obtain⟨u,hu,ru⟩:=rx.get q;exact⟨l,us,u,rfl,rfl,hl,by rw[<-rx.length];exact hu,k _ _ rx.dropLast ru⟩
 .cases e
def FF:FM:=fun _ vs=>match vs with
 | []=>some ([],.non)
 |_=>none
def Qs:CH κ Kl FF:=fun β O H l xs ys vs us ws rt Q hl rx rv e k=>by
 unfold FF at e
 split at e
 .cases e;cases rv;exact⟨l,us,rfl,rfl,hl,k _ _ .nil .non⟩
 .cases e
end
section
variable {X:Cx} {κ:Kx} {E:XK} {F F':Fr} {σ σ':L2.St} {H H1 H':Hp} {Q:VK} {p:Addr} {e a b c o:Expr} {pos apos np cpos:Pos} {i:Nat} {D:Ends}
def BR:FM:=fun xs vs=>match vs with
 | [.lst zs]=>if xs.length+zs.length<=sizeLine then some (xs++zs,.non) else none
 |_=>none
def Lb:CH κ Kj BR:=fun β O H l xs ys vs us ws rt Q hl rx rv e k=>by
 unfold BR at e
 split at e
 .obtain⟨h,e⟩:=qr e
  cases e;cases rv with
  |cons a t=>
   cases t;cases a with
   |lst h1 h2 h3 h4=>exact⟨l,_,us,_,rfl,rfl,hl,h1,by rw[<-rx.length,<-h4.length];exact h,k _ _ (rx.append h4) .non⟩
 .cases e
def qj (p i:P3) (e:E3):D3:=fun s h=>(e s h).bindS fun r h1=>match r.fz with
 |none=>.no
 |some y=>(p s h1).bindS fun f h2=>(i s h2).bindS fun j h3=>match j,rdm s h3 f with
  |.x (.int k),some xs=>match yA xs.length k with
   |some n=>match wr3 s h3 (.lst (xs.set n y)) f with
    |some (s',h')=>.nx s' h'
    |none=>.no
   |none=>.no
  |_,_=>.no
def Qt {dp di:P3} {d:E3} (h:zp κ E (qj dp di d) D σ H):tAsg (zh κ E d) (gSub (zj κ E dp) (zj κ E di) Hy) D σ H:=by
 obtain⟨F,rel,ht,o⟩:=h
 refine (bindS (K:=kE κ) rel ht o).mono fun v H1 ⟨β1,h1,r,e1,p1,o1⟩=>?_
 cases z:r.fz with
 |none=>simp only[z]at o1;exact o1.elim
 |some y=>
  simp only[z]at o1;obtain⟨r1,ry⟩:=Post.fz p1 z;have s1:SExt F H (F.to β1 h1) H1:=SExt.of0 ht e1
  refine (bindS (F:=F.to β1 h1) (K:=kP κ) r1 ht (SOut.move s1 o1)).mono fun ov H2 ⟨β2,h2,f,e2,⟨r2,rf⟩,o2⟩=>?_
  have s2:SExt (F.to β1 h1) H1 (F.to β2 h2) H2:=SExt.of0 (F:=F.to β1 h1) ht e2
  refine (bindS (F:=F.to β2 h2) (K:=kP κ) r2 ht (SOut.move s2 o2)).mono fun iv H3 ⟨β3,h3,j,e3,⟨r3,rj⟩,o3⟩=>?_
  have s3:SExt (F.to β2 h2) H2 (F.to β3 h3) H3:=SExt.of0 (F:=F.to β2 h2) ht e3;have rf3:=RfR.ext (F:=F.to β2 h2) (β':=β3) (h':=h3) r2 e3 rf;have ry3:Rep κ β3 F.O H3 y v:=(Rep.ext0 e3 (Rep.ext0 e2 ry))
  match j,rj,o3 with
  |.s _,rj,o3=>exact o3.elim
  |.x (.int k),rj,o3=>
   cases q:rdm F.s h3 f with
   |none=>simp only[q]at o3;exact o3.elim
   |some xs=>
    simp only[q]at o3;cases q2:yA xs.length k with
    |none=>simp only[q2]at o3;exact o3.elim
    |some n=>
     simp only[q2]at o3;cases q3:wr3 F.s h3 (.lst (xs.set n y)) f with
     |none=>simp only[q3]at o3;exact o3.elim
     |some w=>
      obtain⟨s',h'⟩:=w;simp only[q3]at o3;obtain⟨l,us,ev,hl,rs,wk⟩:=KY (F:=F.to β3 h3) ht r3 rf3 q q3;subst ev;cases (show Rep κ β3 F.O H3 (.int k) iv from rj)
      obtain⟨F',e',es,eh,rel'⟩:=wk (us.set n v) (rs.set ry3 n);exact⟨l,us,k,n,rfl,rfl,hl,by rw[<-rs.length];exact q2,SOut.move s3 o3 F' σ _ e' es eh rel'⟩
def DP {tp:Pos} {ii:Expr} {dp di:P3} {d:E3} (he:PE X e (zh κ E d)) (ho:PE X o (zj κ E dp)) (hi:PE X ii (zj κ E di))
 (hh:∀{te to ti:TE},PE X e te->PE X o to->PE X ii ti->PS X (.Assign [.Subscript o ii tp] e pos) (tAsg te (gSub to ti Hy))):PS X (.Assign [.Subscript o ii tp] e pos) (zp κ E (qj dp di d)):=yV (hh he ho hi) fun D σ H h=>Qt h
def BC (h:H3):Rf->Option (Str×List (Str×V3))
 |.x (.obj c fs)=>some (c,fs)
 |.x (.loc n)=>match h[n]? with
  |some (.ins c fs)=>some (c,fs)
  |_=>none
 |_=>none
def Lc {f:Rf} {v:V} {c:Str} {fs:List (Str×V3)} (rel:Rel κ F σ H) (r:RfR κ F H f v) (e:BC F.h f=some (c,fs)):∃a C dx gs,v=.ref a/\κ.cl c=some C/\H a=some (.ins C dx gs)/\RepP κ F.β F.O H fs gs:=by
 cases f with
 |s i=>cases e
 |x y=>
  cases y<;>simp[BC]at e
  case obj c' fs'=>
   obtain⟨rfl,rfl⟩:=e;cases (show Rep κ F.β F.O H (.obj c' fs') v from r) with
   |obj h1 h2 h3 h4 h5=>exact⟨_,_,_,_,rfl,h1,h2,h5⟩
  case loc n=>
   cases (show Rep κ F.β F.O H (.loc n) v from r) with
   |loc h1 h2=>
    cases q:F.h[n]? with
    |none=>rw[q]at e;cases e
    |some c0=>
     rw[q]at e;cases c0<;>simp at e
     obtain⟨rfl,rfl⟩:=e
     rcases rel.heap.cell n _ q with z|⟨a,ha,C,dx,gs,k1,k2,k3⟩
     .cases z
     .exact⟨a,C,dx,gs,h2 a ha,k1,k2,k3⟩
def Flds (X:Cx) (κ:Kx) (cs:List Str) (f:Str):Prop:=∀c∈cs,∀C,κ.cl c=some C->Cls X.K C/\NoAttr X.K C f
def Flds.nil {f:Str}:Flds X κ [] f:=fun c hc=>by cases hc
def eFld (cs:List Str) (fl:Str) (p:P3):E3:=fun s h=>(p s h).bind fun f h1=>match BC h1 f with
 |some (c,fs)=>if c∈cs then match fs.lookup fl with
   |some x=>.ok (.v x) h1
   |none=>.no
  else .no
 |none=>.no
def Ld {fl:Str} {cs:List Str} {d:P3} (hf:Flds X κ cs fl) (he:PE X e (zj κ E d)) (hb:attributeBase e fl X.env (eval e X.env)=eval e X.env:=by rfl):PE X (.Attribute e fl pos) (zh κ E (eFld cs fl d)):=ym (Of he hb) fun σ H Q ⟨F,rel,o⟩=>
 (zO (K:=kP κ) zE rel o).mono fun v H1 ⟨β1,h1,f,e1,⟨r1,rf⟩,o1⟩=>by
  cases q:BC h1 f with
  |none=>simp only[q]at o1;exact o1.elim
  |some w=>
   obtain⟨c,fs⟩:=w;simp only[q]at o1
   by_cases hc:c∈cs
   .rw[Aa hc]at o1
    cases q2:fs.lookup fl with
    |none=>simp only[q2]at o1;exact o1.elim
    |some x=>
     simp only[q2]at o1;obtain⟨a,C,dx,gs,rfl,k1,k2,k3⟩:=Lc (F:=F.to β1 h1) r1 rf q;obtain⟨y,hy,ry⟩:=k3.lookup q2;exact⟨a,C,dx,gs,y,rfl,k2,(hf c hc C k1).1,(hf c hc C k1).2,hy,o1 β1 y H1 Ext.refl ⟨r1,ry⟩⟩
   .rw[Ac hc]at o1;exact o1.elim
def DQ (f:Str) (v:V3):List (Str×V3)->List (Str×V3)
 | []=>[(f,v)]
 | (g,x)::r=>if g=f then (g,v)::r else (g,x)::DQ f v r
theorem RepP.putF {β:AO} {O:Addr->Prop} {f:Str} {x:V3} {y:V} (r:Rep κ β O H x y):∀{fs:List (Str×V3)} {gs:List (Str×V)},RepP κ β O H fs gs->RepP κ β O H (DQ f x fs) (L2.putF f y gs)
 |_,_,.nil=>.cons r .nil
 |_,_,.cons (k:=k) q t=>by
  unfold DQ L2.putF
  by_cases h:k=f
  .rw[Aa h,Aa h];exact .cons r t
  .rw[Ac h,Ac h];exact .cons q (RepP.putF r t)
def G4 (cs:List Str) (fl:Str) (p:P3) (e:E3):D3:=fun s h=>(e s h).bindS fun r h1=>match r.fz with
 |none=>.no
 |some y=>(p s h1).bindS fun f h2=>match f with
  |.x (.loc n)=>match h2[n]? with
   |some (.ins c fs)=>if c∈cs/\fs.length<1000 then .nx s (h2.set n (.ins c (DQ fl y fs))) else .no
   |_=>.no
  |_=>.no
def Lf {fl:Str} {pos':Pos} {cs:List Str} {dp:P3} {d:E3} {value:Expr} (hf:Flds X κ cs fl) (ha:PE X o (zj κ E dp)) (hv:PE X value (zh κ E d)) (hs:swapsWith value (some (.Attribute o fl pos')) pos.line X.env=pure false:=by rfl):PS X (.Assign [.Attribute o fl pos'] value pos) (zp κ E (G4 cs fl dp d)):=yV (Og ha hv hs) fun D σ H ⟨F,rel,ht,o⟩=>by
 refine (bindS (K:=kE κ) rel ht o).mono fun v H1 ⟨β1,h1,r,e1,p1,o1⟩=>?_
 cases z:r.fz with
 |none=>simp only[z]at o1;exact o1.elim
 |some y=>
  simp only[z]at o1;obtain⟨r1,ry⟩:=Post.fz p1 z;have s1:SExt F H (F.to β1 h1) H1:=SExt.of0 ht e1
  refine (bindS (F:=F.to β1 h1) (K:=kP κ) r1 ht (SOut.move s1 o1)).mono fun ov H2 ⟨β2,h2,f,e2,⟨r2,rf⟩,o2⟩=>?_
  have s2:SExt (F.to β1 h1) H1 (F.to β2 h2) H2:=SExt.of0 (F:=F.to β1 h1) ht e2;have ry2:Rep κ β2 F.O H2 y v:=Rep.ext0 e2 ry
  match f,rf,o2 with
  |.x (.loc n),rf,o2=>
   cases q:h2[n]? with
   |none=>simp only[q]at o2;exact o2.elim
   |some c0=>
    match c0,q,o2 with
    |.ins c fs,q,o2=>
     simp only[q]at o2
     by_cases hc:c∈cs/\fs.length<1000
     .rw[Aa hc]at o2
      cases (show Rep κ β2 F.O H2 (.loc n) ov from rf) with
      |loc l1 l2=>
       rcases r2.heap.cell n _ q with w|⟨a,ha,C,dx,gs,k1,k2,k3⟩
       .cases w
       .have ev:=l2 a ha
        subst ev;have ex:=fun o=>HZ (H:=H2) (β:=β2) (o:=o) ha ⟨_,k2⟩
        refine⟨a,C,dx,gs,rfl,k2,(hf c hc.1 C k1).1,(hf c hc.1 C k1).2,by rw[<-k3.length];exact hc.2,?_⟩
        refine SOut.move s2 o2 (F.to β2 (h2.set n (.ins c (DQ fl y fs)))) σ _ (SExt.of0 (F:=F.to β2 h2) ht (ex _)) rfl rfl ?_
        exact Rel.next (F:=F.to β2 h2) r2 (ex _) (r2.heap.wrLoc ha ⟨C,dx,_,k1,z6,(RepP.putF ry2 k3).ext0 (ex _)⟩)
     .rw[Ac hc]at o2;exact o2.elim
    |.lst _,q,o2=>simp only[q]at o2;exact o2.elim
    |.dK _,q,o2=>simp only[q]at o2;exact o2.elim
    |.dT _,q,o2=>simp only[q]at o2;exact o2.elim
    |.dead,q,o2=>simp only[q]at o2;exact o2.elim
def CJ (c m:Str) (f:F3) (p:P3) (a:A3):E3:=fun s h=>(p s h).bind fun g h1=>match g,BC h1 g with
 |.x x,some (c',fs)=>if c'=c/\fs.lookup m=none then (a s h1).bind fun gs h2=>match vals3 gs with
   |some vs=>f (x::vs) h2
   |none=>.no
  else .no
 |_,_=>.no
def Qu {C:Addr} {c m:Str} {f:F3} {dp:P3} {t:A3} {k:Nat} (hC:κ.cl c=some C) (hf:zn f k) (h:zh κ E (CJ c m f dp t) σ H Q):JR C m (zm κ k f) [] E (zj κ E dp) (zB κ E t) σ H Q:=by
 obtain⟨F,rel,o⟩:=h
 refine (zO (K:=kP κ) zE rel o).mono fun v H1 ⟨β1,h1,g,e1,⟨r1,rf⟩,o1⟩=>?_
 match g,rf,o1 with
 |.s i,rf,o1=>exact o1.elim
 |.x x,rf,o1=>
  cases q:BC h1 (.x x) with
  |none=>simp only[q]at o1;exact o1.elim
  |some w=>
   obtain⟨c',fs⟩:=w;simp only[q]at o1
   by_cases hc:c'=c/\fs.lookup m=none
   .rw[Aa hc]at o1
    obtain⟨a,C',dx,gs,rfl,k1,k2,k3⟩:=Lc (F:=F.to β1 h1) r1 rf q;rw[hc.1,hC]at k1;cases k1
    refine⟨a,dx,gs,rfl,k2,k3.lookup_none hc.2,?_⟩
    refine (zO (F:=F.to β1 h1) (K:=kA κ) zE r1 o1).mono fun vs H2 ⟨β2,h2,fs2,e2,⟨r2,rf2⟩,o2⟩=>?_
    cases q2:vals3 fs2 with
    |none=>simp only[q2]at o2;exact o2.elim
    |some xs=>
     simp only[q2]at o2;have hr:=BP rf2 q2;have rx:Rep κ β2 F.O H2 x (.ref a):=Rep.ext0 e2 rf;rw[Bt]
     refine⟨F.O,β2,x::xs,h2,?_,r2.heap,.cons rx hr,FOut.of (F:=F.to β2 h2) r2 o2⟩
     refine Fb fun n=>?_
     rw[hf (x::xs) h2 (by rw[Az,hr.length];exact n)]at o2
     exact o2
   .rw[Ac hc]at o1;exact o1.elim
def Qv {C fa:Addr} {c m:Str} {es:List Expr} {f:F3} {dp:P3} {t:A3} {k:Nat} {fd:FuncData} {ps:List Str} {n:Nat} {pl:Sem Bool} (hC:κ.cl c=some C) (hf:zn f n) (he:PE X o (zj κ E dp)) (cl:Cls X.K C) (hm:Meth X.K C m fa) (Fk:FnOk X.prog X.w X.K X.mg X.base (XT X.prog X.w) k fa fd ps (zm κ n f)) (hr:Room k X.A) (hb:Binds X.K fd ps []) (hx:qC (XT X.prog X.w) X E)
 (ha:PA X (e::es) (zB κ E t)) (hst:SE X e es:=by rfl) (hpl:BA X pos es:=by rfl)
 (ht:eval (.Call (.Attribute o m apos) (e::es) [] pos) X.env=(do
  let ov <-eval o X.env
  standAt apos.atName
  let (f,first) <-holding [ov] (getMethod ov m pl)
  callWith pos f first (backTo pos (starEach (e::es) X.env)) (backToKw pos (keywordEach [] X.env))):=by rfl):
 PE X (.Call (.Attribute o m apos) (e::es) [] pos) (zh κ E (CJ c m f dp t)):=ym (Oq he cl hm Fk hr hb .nil hx ha hst hpl ht) fun _ _ _ h=>Qu hC hf h
def eNew (c:Str) (f:F3) (a:A3):E3:=fun s h=>(a s h).bind fun fs h1=>match vals3 fs with
 |some vs=>match f (.loc h1.length::vs) (h1++[.ins c []]) with
  |.ok (.v .non) h2=>.ok (.v (.loc h1.length)) h2
  |.ex x h2=>.ex x h2
  |_=>.no
 |none=>.no
def Qw {C:Addr} {c:Str} {f:F3} {t:A3} {k:Nat} (hC:κ.cl c=some C) (hf:zn f k) (h:zh κ E (eNew c f t) σ H Q):JS C (zm κ k f) [] E (zB κ E t) σ H Q:=by
 obtain⟨F,rel,o⟩:=h
 refine (zO (K:=kA κ) zE rel o).mono fun vs H1 ⟨β1,h1,fs,e1,⟨r1,rf1⟩,o1⟩=>fun x dx hx hdx hne=>?_
 cases q:vals3 fs with
 |none=>simp only[q]at o1;exact o1.elim
 |some xs=>
  simp only[q]at o1;have hr:Reps κ β1 F.O H1 xs vs:=BP (F:=F.to β1 h1) rf1 q;have hl:β1.length=h1.length:=r1.heap.len;have hdx2:(zi H1 dx (.own x)) x=none:=by rw[zy (A5 hne)];exact hx
  have kp:∀a u,H1 a=some u->(zi (zi H1 dx (.own x)) x (.ins C dx [])) a=some u:=fun a u ha=>by rw[zy (yw ha hx),zy (yw ha hdx)];exact ha
  obtain⟨nx,nO⟩:=r1.heap.off_new hx;have ex:Ext No β1 H1 (β1++[some x]) (zi (zi H1 dx (.own x)) x (.ins C dx [])):=⟨fun a u ha hn _=>⟨kp a u ha,fun z=>by
    rcases Aw.mp z with z|z
    .exact hn z
    .have:=As.mp z
     cases this;rw[hx]at ha;cases ha⟩,by simp,fun i a hi h=>by rw[A8 hi]at h;exact h,fun a u ha=>⟨u,kp a u ha⟩,fun i a hi h=>by
    rw[Bo hi]at h;have:a=x:=by have:=Ap h;simp at this;exact this
    rw[this];exact hx⟩
  have rh:RelH κ F.O (β1++[some x]) (h1++[.ins c []]) (zi (zi H1 dx (.own x)) x (.ins C dx [])):=by
   refine⟨by simp[hl],fun i j a h1' h2'=>?_,fun a ha z=>?_,fun a ha=>let ⟨u,q,n⟩:=r1.heap.trk a ha;⟨u,kp a u q,n⟩,fun i a q=>?_,fun i c' hc=>?_⟩
   .rcases Cp i β1.length with hi|hi<;>rcases Cp j β1.length with hj|hj
    .rw[A8 hi]at h1';rw[A8 hj]at h2';exact r1.heap.inj i j a h1' h2'
    .rw[A8 hi]at h1';rw[Bo hj]at h2'
     have:a=x:=by
      have:=Ap h2';simp at this;exact this
     subst this;exact absurd (Ap h1') nx
    .rw[Bo hi]at h1';rw[A8 hj]at h2'
     have:a=x:=by
      have:=Ap h1';simp at this;exact this
     subst this;exact absurd (Ap h2') nx
    .have hi2:i<(β1++[some x]).length:=(An.mp h1').1
     have hj2:j<(β1++[some x]).length:=(An.mp h2').1;simp at hi2 hj2;lia
   .rcases Aw.mp z with z|z
    .exact r1.heap.off a ha z
    .have:=As.mp z
     cases this;exact nO ha
   .rcases Cp i β1.length with hi|hi
    .rw[A8 hi]at q
     obtain⟨u,hu,n⟩:=r1.heap.btr i a q;exact⟨u,kp a u hu,n⟩
    .rw[Bo hi]at q
     have:a=x:=by have:=Ap q;simp at this;exact this
     subst this;exact⟨_,z6,by intro _ z;cases z⟩
   .rcases Cp i h1.length with hi|hi
    .rw[A8 hi]at hc
     refine (r1.heap.cell i c' hc).imp id fun ⟨a,ha,q⟩=>⟨a,by rw[A8 (by rw[hl];exact hi)];exact ha,q.ext ex (fun _ z=>z.elim) (fun _ _ _ n=>n) fun u hu=>kp a u hu⟩
    .rw[Bo hi]at hc
     have hi2:i-h1.length=0:=by
      have:=(An.mp hc).1;simp at this;exact this
     rw[hi2]at hc;cases hc;have ei:i=h1.length:=by lia
     subst ei;exact .inr ⟨x,by rw[<-hl];simp,C,dx,[],hC,z6,.nil⟩
  have rloc:Rep κ (β1++[some x]) F.O (zi (zi H1 dx (.own x)) x (.ins C dx [])) (.loc h1.length) (.ref x):= .loc (by simp[hl]) fun a ha=>by rw[<-hl]at ha;simp at ha;rw[ha]
  rw[Bt]
  refine⟨F.O,β1++[some x],.loc h1.length::xs,h1++[.ins c []],?_,rh,.cons rloc (hr.ext0 ex),?_⟩
  .refine Fb fun n=>?_
   rw[hf (.loc h1.length::xs) _ (by rw[Az,hr.length];exact n)]at o1
   exact o1
  .cases q2:f (.loc h1.length::xs) (h1++[.ins c []]) with
   |no=>simp only[q2]at o1;exact o1
   |ex x' h2=>simp only[q2]at o1;exact fun β' H' e' r'=>(o1 β' H' (ex.trans0 e') (r'.sub fun a ha=>.inr (.inr ha))).sub fun a ha=>.inr (.inr ha)
   |ok r h2=>
    match r,q2 with
    |.v .non,q2=>
     simp only[q2]at o1;intro β' v H' e' pf;obtain⟨rh',rn⟩:=pf;cases rn
     refine⟨rfl,o1 β' (.ref x) H' (ex.trans0 e') ⟨Rel.next (F:=F.to β1 h1) r1 (ex.trans0 e') rh',.loc ?_ fun a ha=>?_⟩⟩
     .show h1.length<β'.length;have:=e'.len;simp at this;lia
     .have:=e'.bet h1.length a (by simp[hl]) ha
      rw[<-hl]at this;simp at this;rw[this]
    |.m _,q2=>simp only[q2]at o1;exact o1.elim
    |.v (.bl _),q2=>simp only[q2]at o1;exact o1.elim
    |.v (.int _),q2=>simp only[q2]at o1;exact o1.elim
    |.v (.str _),q2=>simp only[q2]at o1;exact o1.elim
    |.v (.ty _),q2=>simp only[q2]at o1;exact o1.elim
    |.v (.tup _),q2=>simp only[q2]at o1;exact o1.elim
    |.v (.lst _),q2=>simp only[q2]at o1;exact o1.elim
    |.v (.scr _),q2=>simp only[q2]at o1;exact o1.elim
    |.v (.dK _),q2=>simp only[q2]at o1;exact o1.elim
    |.v (.dT _),q2=>simp only[q2]at o1;exact o1.elim
    |.v (.obj _ _),q2=>simp only[q2]at o1;exact o1.elim
    |.v (.cls _),q2=>simp only[q2]at o1;exact o1.elim
    |.v (.fn _ _),q2=>simp only[q2]at o1;exact o1.elim
    |.v (.loc _),q2=>simp only[q2]at o1;exact o1.elim
def Qx {C fI:Addr} {c x:Str} {es:List Expr} {f:F3} {t:A3} {k:Nat} {fd:FuncData} {ps:List Str} {n:Nat} (hC:κ.cl c=some C) (hf:zn f n) (M:Mk X.K C fI) (Fk:FnOk X.prog X.w X.K X.mg X.base (XT X.prog X.w) k fI fd ps (zm κ n f)) (hr:Room (k+1) X.A) (hg:Gl X x) (hm:X.mg x=some (.ref C)) (hb:Binds X.K fd ps []) (hx:qC (XT X.prog X.w) X E)
 (ha:PA X (e::es) (zB κ E t)) (hdb:(x==("__debug__" :Str))=false:=by decide) (he:SE X e es:=by rfl) (hpl:BA X pos es:=by rfl):
 PE X (.Call (.Name x np) (e::es) [] pos) (zh κ E (eNew c f t)):=ym (Ot M Fk hr hg hm hb .nil hx ha hdb he hpl) fun _ _ _ h=>Qw hC hf h
end
mutual
def low (n:Nat):V3->Bool
 |.loc m=>decide (m<n)
 |.tup xs=>lows n xs
 |.lst xs=>lows n xs
 |.dK kvs=>lowK n kvs
 |.dT kvs=>lowT n kvs
 |.obj _ fs=>lowF n fs
 |.fn _ env=>lows n env
 |_=>true
def lows (n:Nat):List V3->Bool
 | []=>true
 |x::r=>low n x && lows n r
def lowK (n:Nat):List (yC×V3)->Bool
 | []=>true
 | (_,x)::r=>low n x && lowK n r
def lowT (n:Nat):List (MK×V3)->Bool
 | []=>true
 | (_,x)::r=>low n x && lowT n r
def lowF (n:Nat):List (Str×V3)->Bool
 | []=>true
 | (_,x)::r=>low n x && lowF n r
end
section
variable {X:Cx} {κ:Kx} {E:XK} {F F':Fr} {σ σ':L2.St} {H H1 H':Hp} {Q:VK} {p:Addr} {e a b c o:Expr} {pos apos np cpos:Pos} {i:Nat} {D:Ends} {β:AO} {O:Addr->Prop}
def yi {α:Type} (n:Nat) (kvs:List (α×V3)):Prop:=∀kv∈kvs,low n kv.2=true
theorem lowK_iff {n:Nat}:∀{kvs:List (yC×V3)},lowK n kvs=true↔yi n kvs
 | []=>by simp[lowK,yi]
 | (k,x)::r=>by simp[lowK,yi,Ar,lowK_iff (kvs:=r)]
theorem lowT_iff {n:Nat}:∀{kvs:List (MK×V3)},lowT n kvs=true↔yi n kvs
 | []=>by simp[lowT,yi]
 | (k,x)::r=>by simp[lowT,yi,Ar,lowT_iff (kvs:=r)]
theorem lowF_iff {n:Nat}:∀{kvs:List (Str×V3)},lowF n kvs=true↔yi n kvs
 | []=>by simp[lowF,yi]
 | (k,x)::r=>by simp[lowF,yi,Ar,lowF_iff (kvs:=r)]
mutual
theorem Rep.low:∀{x:V3} {v:V},Rep κ β O H x v->low β.length x=true
 |_,_,.non=>by simp[L3.low]
 |_,_,.bl _=>by simp[L3.low]
 |_,_,.int _=>by simp[L3.low]
 |_,_,.str _=>by simp[L3.low]
 |_,_,.ty _=>by simp[L3.low]
 |_,_,.tup _ _ _ r=>by simp only[L3.low];exact Reps.low r
 |_,_,.lst _ _ _ r=>by simp only[L3.low];exact Reps.low r
 |_,_,.scr _ _ _=>by simp[L3.low]
 |_,_,.scrK _=>by simp[L3.low]
 |_,_,.dK _ _ _ r=>by simp only[L3.low];exact lowK_iff.mpr (RepP.low r)
 |_,_,.dT _ _ _ r=>by simp only[L3.low];exact lowT_iff.mpr (RepP.low r)
 |_,_,.obj _ _ _ _ r=>by simp only[L3.low];exact lowF_iff.mpr (RepP.low r)
 |_,_,.cls _=>by simp[L3.low]
 |_,_,.exc (dd:=dd) _ _ _ _ x=>by
  cases dd with
  |none=>cases x;simp[L3.low,L3.lows]
  |some d=>obtain⟨z,rfl,_⟩:=x;simp[L3.low,L3.lows]
 |_,_,.loc h _=>by simp[L3.low,h]
theorem Reps.low:∀{x:List V3} {v:List V},Reps κ β O H x v->lows β.length x=true
 |_,_,.nil=>by simp[L3.lows]
 |_,_,.cons a r=>by simp only[L3.lows,Ar];exact⟨Rep.low a,Reps.low r⟩
theorem RepP.low:∀{α:Type} {x:List (α×V3)} {v:List (α×V)},RepP κ β O H x v->yi β.length x
 |_,_,_,.nil=>fun kv h=>by cases h
 |_,_,_,.cons a r=>fun kv h=>by
  rcases Ae.mp h with z|z
  .rw[z];exact Rep.low a
  .exact RepP.low r kv z
end
mutual
theorem Rep.cut {n:Nat}:∀{x:V3} {v:V},Rep κ β O H x v->low n x=true->Rep κ (β.take n) O H x v
 |_,_,.non,_=>.non
 |_,_,.bl b,_=>.bl b
 |_,_,.int i,_=>.int i
 |_,_,.str x,_=>.str x
 |_,_,.ty x,_=>.ty x
 |_,_,.tup h1 h2 h3 r,l=>.tup h1 (fun z=>h2 (B8 z)) h3 (Reps.cut r (by simpa only[L3.low] using l))
 |_,_,.lst h1 h2 h3 r,l=>.lst h1 (fun z=>h2 (B8 z)) h3 (Reps.cut r (by simpa only[L3.low] using l))
 |_,_,.scr h1 h2 h3,_=>.scr h1 (fun z=>h2 (B8 z)) h3
 |_,_,.scrK h,_=>.scrK h
 |_,_,.dK h1 h2 h3 r,l=>.dK h1 (fun z=>h2 (B8 z)) h3 (RepP.cut r (lowK_iff.mp (by simpa only[L3.low] using l)))
 |_,_,.dT h1 h2 h3 r,l=>.dT h1 (fun z=>h2 (B8 z)) h3 (RepP.cut r (lowT_iff.mp (by simpa only[L3.low] using l)))
 |_,_,.obj h0 h1 h2 h3 r,l=>.obj h0 h1 (fun z=>h2 (B8 z)) h3 (RepP.cut r (lowF_iff.mp (by simpa only[L3.low] using l)))
 |_,_,.cls h,_=>.cls h
 |_,_,.exc h0 h1 h2 h3 x,_=>.exc h0 h1 (fun z=>h2 (B8 z)) h3 (x.imp fun d u h n q=>⟨h,fun z=>n (B8 z),q⟩)
 |_,_,.loc (n:=m) h1 h2,l=>by
  have hm:m<n:=by simpa[L3.low] using l
  exact .loc (by rw[Bc];lia) fun a ha=>h2 a (by rw[Ck hm]at ha;exact ha)
theorem Reps.cut {n:Nat}:∀{x:List V3} {v:List V},Reps κ β O H x v->lows n x=true->Reps κ (β.take n) O H x v
 |_,_,.nil,_=>.nil
 |_,_,.cons a r,l=>by
  simp only[L3.lows,Ar]at l;exact .cons (Rep.cut a l.1) (Reps.cut r l.2)
theorem RepP.cut {n:Nat}:∀{α:Type} {x:List (α×V3)} {v:List (α×V)},RepP κ β O H x v->yi n x->RepP κ (β.take n) O H x v
 |_,_,_,.nil,_=>.nil
 |_,_,_,.cons a r,l=>.cons (Rep.cut a (l _ Aj)) (RepP.cut r fun kv h=>l kv (Am _ h))
end
def lowC (n:Nat):C3->Prop
 |.lst xs=>lows n xs=true
 |.dK kvs=>yi n kvs
 |.dT kvs=>yi n kvs
 |.ins _ fs=>yi n fs
 |.dead=>True
theorem CellR.low {c:C3} {a:Addr} (r:CellR κ β O H c a):lowC β.length c:=by
 cases c with
 |lst xs=>obtain⟨_,_,r⟩:=r;exact r.low
 |dK xs=>obtain⟨_,_,r⟩:=r;exact r.low
 |dT xs=>obtain⟨_,_,r⟩:=r;exact r.low
 |ins c fs=>obtain⟨_,_,_,_,_,r⟩:=r;exact r.low
 |dead=>exact r.elim
theorem CellR.cut {c:C3} {a:Addr} {n:Nat} (r:CellR κ β O H c a) (l:lowC n c):CellR κ (β.take n) O H c a:=by
 cases c with
 |lst xs=>obtain⟨_,q,r⟩:=r;exact⟨_,q,r.cut l⟩
 |dK xs=>obtain⟨_,q,r⟩:=r;exact⟨_,q,r.cut l⟩
 |dT xs=>obtain⟨_,q,r⟩:=r;exact⟨_,q,r.cut l⟩
 |ins c fs=>obtain⟨_,_,_,k,q,r⟩:=r;exact⟨_,_,_,k,q,r.cut l⟩
 |dead=>exact r.elim
mutual
theorem Rep.addO {x:Addr} (hx:some x∈β):∀{v:V3} {w:V},Rep κ β O H v w->Rep κ β (fun a=>a=x\/O a) H v w
 |_,_,.non=>.non
 |_,_,.bl b=>.bl b
 |_,_,.int i=>.int i
 |_,_,.str x=>.str x
 |_,_,.ty x=>.ty x
 |_,_,.tup h1 h2 h3 r=>.tup h1 h2 (fun z=>z.elim (fun e=>h2 (by rw[e];exact hx)) h3) (Reps.addO hx r)
 |_,_,.lst h1 h2 h3 r=>.lst h1 h2 (fun z=>z.elim (fun e=>h2 (by rw[e];exact hx)) h3) (Reps.addO hx r)
 |_,_,.scr h1 h2 h3=>.scr h1 h2 (fun z=>z.elim (fun e=>h2 (by rw[e];exact hx)) h3)
 |_,_,.scrK h=>.scrK h
 |_,_,.dK h1 h2 h3 r=>.dK h1 h2 (fun z=>z.elim (fun e=>h2 (by rw[e];exact hx)) h3) (RepP.addO hx r)
 |_,_,.dT h1 h2 h3 r=>.dT h1 h2 (fun z=>z.elim (fun e=>h2 (by rw[e];exact hx)) h3) (RepP.addO hx r)
 |_,_,.obj h0 h1 h2 h3 r=>.obj h0 h1 h2 (fun z=>z.elim (fun e=>h2 (by rw[e];exact hx)) h3) (RepP.addO hx r)
 |_,_,.cls h=>.cls h
 |_,_,.exc h0 h1 h2 h3 x=>.exc h0 h1 h2 (fun z=>z.elim (fun e=>h2 (by rw[e];exact hx)) h3) (x.imp fun d u h n q=>⟨h,n,fun z=>z.elim (fun e=>n (by rw[e];exact hx)) q⟩)
 |_,_,.loc h1 h2=>.loc h1 h2
theorem Reps.addO {x:Addr} (hx:some x∈β):∀{v:List V3} {w:List V},Reps κ β O H v w->Reps κ β (fun a=>a=x\/O a) H v w
 |_,_,.nil=>.nil
 |_,_,.cons a r=>.cons (Rep.addO hx a) (Reps.addO hx r)
theorem RepP.addO {x:Addr} (hx:some x∈β):∀{α:Type} {v:List (α×V3)} {w:List (α×V)},RepP κ β O H v w->RepP κ β (fun a=>a=x\/O a) H v w
 |_,_,_,.nil=>.nil
 |_,_,_,.cons a r=>.cons (Rep.addO hx a) (RepP.addO hx r)
end
theorem CellR.addO {c:C3} {a x:Addr} (hx:some x∈β) (r:CellR κ β O H c a):CellR κ β (fun a=>a=x\/O a) H c a:=by
 cases c with
 |lst xs=>obtain⟨_,q,r⟩:=r;exact⟨_,q,r.addO hx⟩
 |dK xs=>obtain⟨_,q,r⟩:=r;exact⟨_,q,r.addO hx⟩
 |dT xs=>obtain⟨_,q,r⟩:=r;exact⟨_,q,r.addO hx⟩
 |ins c fs=>obtain⟨_,_,_,k,q,r⟩:=r;exact⟨_,_,_,k,q,r.addO hx⟩
 |dead=>exact r.elim
open Classical in
def eObj (e:E3):E3:=fun s h=>(e s h).bind fun r h1=>match r with
 |.v (.loc n)=>match h1[n]? with
  |some (.ins c fs)=>if n=h.length/\h1=h++[.ins c fs]/\lowF n fs=true then .ok (.m (.ins c fs)) h else .no
  |_=>.no
 |_=>.no
def Qy {β1:AO} {h1:H3} {n:Nat} {c:Str} {fs:List (Str×V3)} {v:V} (rel:Rel κ F σ H) (e1:Ext No F.β H β1 H1) (r1:Rel κ (F.to β1 h1) σ H1) (rl:Rep κ β1 F.O H1 (.loc n) v) (en:n=F.h.length) (eh:h1=F.h++[.ins c fs]) (hlow:lowF n fs=true):
  Ext No F.β H (β1.take n) H1/\Post κ (Nw H) (F.to (β1.take n) F.h) σ H1 (.m (.ins c fs)) v:=by
 have hl1:β1.length=h1.length:=r1.heap.len;have hl0:F.β.length=F.h.length:=rel.heap.len;have hlen:β1.length=n+1:=by rw[hl1,eh];simp[en]
 have hn:h1[n]? =some (.ins c fs):=by rw[eh,en];simp
 rcases r1.heap.cell n _ hn with w|⟨x,hx,C,dx,gs,k1,k2,k3⟩
 .cases w
 have hx:β1[n]? =some (some x):=hx;have ev:v=.ref x:=by cases rl with|loc _ l2=>exact l2 x hx
 subst ev;have hxb:some x∈β1:=Ap hx;have hxn:some x∉β1.take n:=fun z=>by
  obtain⟨j,hj⟩:=Bz z;have hj2:j<n:=by have:=(An.mp hj).1;rw[Bc]at this;lia
  rw[Ck hj2]at hj;have:=r1.heap.inj j n x hj hx;lia
 have hxH:H x=none:=e1.nwb n x (by lia) hx
 have ex:Ext No F.β H (β1.take n) H1:=⟨fun a u ha hb m=>by
   obtain⟨q1,q2⟩:=e1.keep a u ha hb m;exact⟨q1,fun z=>q2 (B8 z)⟩,by rw[Bc];lia,fun i a hi h=>by
   rw[Ck (by lia)]at h;exact e1.bet i a hi h,e1.there,fun i a hi h=>by
   have:=(An.mp h).1;rw[Bc]at this;lia⟩
 have rh:RelH κ (fun a=>a=x\/F.O a) (β1.take n) F.h H1:=by
  refine⟨by rw[Bc];lia,fun i j a h1' h2'=>?_,fun a ha z=>?_,fun a ha=>?_,fun i a q=>?_,fun i c' hc=>?_⟩
  .have hi:i<n:=by have:=(An.mp h1').1;rw[Bc]at this;lia
   have hj:j<n:=by have:=(An.mp h2').1;rw[Bc]at this;lia
   rw[Ck hi]at h1';rw[Ck hj]at h2';exact r1.heap.inj i j a h1' h2'
  .rcases ha with ha|ha
   .subst ha;exact hxn z
   .exact r1.heap.off a ha (B8 z)
  .rcases ha with ha|ha
   .subst ha;exact⟨_,k2,by intro _ z;cases z⟩
   .exact r1.heap.trk a ha
  .have hi:i<n:=by have:=(An.mp q).1;rw[Bc]at this;lia
   rw[Ck hi]at q;exact r1.heap.btr i a q
  .have hi:i<n:=by rw[en];exact (An.mp hc).1
   have hc1:h1[i]? =some c':=by rw[eh,A8 (by lia)];exact hc
   have hlw:c'=.dead\/lowC n c':=(rel.heap.cell i c' hc).imp id fun ⟨a,_,q⟩=>by have:=q.low;rw[hl0,<-en]at this;exact this
   rcases hlw with z|hlw
   .exact .inl z
   .exact (r1.heap.cell i c' hc1).imp id fun ⟨a,ha,q⟩=>⟨a,by rw[Ck hi];exact ha,(CellR.addO hxb q).cut hlw⟩
 refine⟨ex,x,rfl,rel.nextNew ex rh hxH,⟨C,dx,gs,k1,k2,((RepP.addO hxb k3).cut (lowF_iff.mp hlow)).sub fun a ha=>?_⟩,hxH⟩
 rcases ha with z|z
 .rcases Ae.mp z with z|z
  .exact .inl z
  .exact .inr (.inl z)
 .exact .inr (.inr z)
def Qz {d:E3} (h:PE X e (zh κ E d)):PE X e (zh κ E (eObj d)):=ym h fun σ H Q ⟨F,rel,o⟩=>by
 refine⟨F,rel,?_⟩
 unfold eObj at o;cases q:d F.s F.h with
 |no=>rw[q]at o;exact o
 |ex x h1=>rw[q]at o;exact o
 |ok r h1=>
  rw[q]at o;intro β1 v H1 e1 p1;simp only[Res.bind]at o
  split at o
  .split at o
   .split at o
    .rename_i hc
     obtain⟨en,eh,hlow⟩:=hc;obtain⟨ex,ps⟩:=Qy rel e1 p1.1 p1.2 en eh hlow;exact o _ v H1 ex ps
    .exact o.elim
   .exact o.elim
  .exact o.elim
def iS (p:P3):I3:=fun s h=>(p s h).bind fun f h1=>match f with
 |.x (.str z)=>.ok ⟨[],z.cps.toList.map fun c=>.str ⟨#[c]⟩,fun _=>True⟩ h1
 |_=>.no
def Q0 {tg l:Expr} {d:P3} (hl:PE X l (zj κ E d)):PI X tg l (yg κ E (iS d)):=PIw (P9 hl) fun σ H R ⟨F,rel,o⟩=>
 (zO (K:=kP κ) km_I rel o).mono fun v H1 ⟨β1,h1,f,e1,⟨r1,rf⟩,o1⟩=>by
  match f,rf,o1 with
  |.x (.str z),rf,o1=>
   cases (show Rep κ β1 F.O H1 (.str z) v from rf)
   refine⟨z,rfl,o1 β1 _ H1 Ext.refl ⟨r1,[],.nil,fun F' σ' H' rel' _ _ i=>?_⟩⟩
   have el:(z.cps.toList.map fun c=>V3.str ⟨#[c]⟩).length=z.length:=by simp[Str.length]
   refine⟨fun hi=>⟨show i<z.length by rw[el]at hi;exact hi,fun x H'' ⟨e1,c,hc,e2⟩=>?_⟩,fun hi=>show z.length<=i by rw[el]at hi;exact hi⟩
   subst e1;subst e2
   refine⟨.str ⟨#[c]⟩,?_,Ext.refl,rel',.str _⟩
   rw[A9,Bm,hc];rfl
def oInS (neg:Bool):F2:=fun _ _ x y=>match x,y with
 |.x (.str i),.x (.str j)=>some (.v (.bl (if neg then !(!(Builtin.Str.occurrences j i 0 j.length 1).isEmpty) else !(Builtin.Str.occurrences j i 0 j.length 1).isEmpty)))
 |_,_=>none
def Lg:OpSim κ (fun x y H Q=> ∃i j,x=.str i/\y=.str j/\Q (.bl (!(Builtin.Str.occurrences j i 0 j.length 1).isEmpty)) H) (oInS false):=fun F σ H x y z v w Q rel rx ry e k=>by
 unfold oInS at e
 split at e
 .rename_i i j
  cases e;cases (show Rep κ F.β F.O H (.str i) v from rx)
  cases (show Rep κ F.β F.O H (.str j) w from ry)
  exact⟨i,j,rfl,rfl,k _ H Ext.refl ⟨rel,.bl _⟩⟩
 .cases e
def inO (neg:Bool) (s:S3) (h:H3) (x y:Rf):Option Bool:=match x with
 |.x a=>match (match y with | .x (.tup xs)=>some xs|f=>rdl s h f) with
  |some xs=>(zF (fun b=>zA h 8 b a) xs).map fun bs=>if neg then !bs.any id else bs.any id
  |none=>none
 |_=>none
end
section
variable {X:Cx} {κ:Kx} {E:XK} {F F':Fr} {σ σ':L2.St} {H H1 H':Hp} {Q:VK} {p:Addr} {e a b c o:Expr} {es:List Expr} {pos apos np cpos:Pos} {i:Nat} {D:Ends}
def yH {A:Around} {k:Nat} (hr:Room k A):A.units+9<cLine:=by have:=hr.units;lia
def Flds.cons {cs:List Str} {c f:Str} {C:Addr} (hC:κ.cl c=some C) (cl:Cls X.K C) (na:NoAttr X.K C f) (r:Flds X κ cs f):Flds X κ (c::cs) f:=fun c' hc C' hC'=>by
 rcases Ae.mp hc with z|z
 .subst z;rw[hC]at hC';cases hC';exact⟨cl,na⟩
 .exact r c' z C' hC'
def BD:∀xs s s',gsNil xs s=some s'->xs.length=0:=fun xs s s' e=>by
 cases xs with
 |nil=>rfl
 |cons _ _=>cases e
def yp {g:G3} {gs:Gs3} {n:Nat} (h:∀xs s s',gs xs s=some s'->xs.length=n):∀xs s s',gsCons g gs xs s=some s'->xs.length=n+1:=fun xs s s' e=>by
 cases xs with
 |nil=>cases e
 |cons x r=>
  simp only[gsCons]at e;cases q:g x s with
  |none=>rw[q]at e;cases e
  |some s1=>rw[q]at e;rw[Az,h r s1 s' e]
def sAug (i:Nat) (f:F2) (p:P3):D3:=fun s h=>match s[i]? with
 |some (some (.v x))=>(p s h).bindS fun y h1=>match f s h1 (.x x) y with
  |some (.v z)=>.nx (s.set i (some (.v z))) h1
  |_=>.no
 |_=>.no
def Lh:OpSim κ (ipI fun i j=>i+j) BQ:=sim_addI
def Li {x:Str} {op:Operator} {ti:TIp} {f:F2} {d:P3} {pos':Pos} (hs:OpSim κ ti f) (hh:∀{te:TE},PE X e te->PS X (.AugAssign (.Name x pos') op e pos) (tAug i te ti)) (he:PE X e (zj κ E d)):PS X (.AugAssign (.Name x pos') op e pos) (zp κ E (sAug i f d)):=yV (hh he) fun D σ H ⟨F,rel,ht,o⟩=>by
 unfold sAug at o;cases q:F.s[i]? with
 |none=>rw[q]at o;exact o.elim
 |some z=>
  rw[q]at o
  match z,q,o with
  |none,q,o=>exact o.elim
  |some (.m _),q,o=>exact o.elim
  |some (.v x3),q,o=>
   obtain⟨v,h1,h2⟩:=rel.slot i _ q
   refine⟨v,h1,(bindS (K:=kP κ) rel ht o).mono fun w H1 ⟨β1,h1',y,e1,⟨r1,ry⟩,o1⟩=>?_⟩
   have hi':i<F.s.length:=(An.mp q).1;cases q2:f F.s h1' (.x x3) y with
   |none=>simp only[q2]at o1;exact o1.elim
   |some z=>
    refine hs (F.to β1 h1') σ H1 (.x x3) y z v w _ r1 (show Rep κ β1 F.O H1 x3 v from Rep.ext0 e1 h2) ry q2 fun u H2 e2 p2=>?_
    match z,q2,p2,o1 with
    |.m _,q2,p2,o1=>simp only[q2]at o1;exact o1.elim
    |.v z,q2,p2,o1=>
     simp only[q2]at o1;have s1:SExt F H (F.to β1 h1') H1:=SExt.of0 ht e1;have s2:SExt (F.to β1 h1') H1 (F.to β1 h1') H2:=SExt.of0 (F:=F.to β1 h1') (h':=h1') ht e2;exact o1 ((F.to β1 h1').setV i z) _ H2 ((s1.trans s2).trans (SExt.setN ht)) rfl rfl (p2.1.setV p2.2 hi')
def eGl (e:E3):E3:=fun s h=>(e s h).bind fun r h1=>match r with
 |.m c=>.ok (.v (.loc h1.length)) (h1++[c])
 |.v x=>.ok (.v x) h1
mutual
theorem Rep.grow {β:AO} {O O':Addr->Prop} {x:Addr} (hx:O x) (hs:∀a,O' a->O a):∀{v:V3} {w:V},Rep κ β O H v w->Rep κ (β++[some x]) O' H v w
 |_,_,.non=>.non
 |_,_,.bl b=>.bl b
 |_,_,.int i=>.int i
 |_,_,.str x=>.str x
 |_,_,.ty x=>.ty x
 |_,_,.tup h1 h2 h3 r=>.tup h1 (fun z=>(Aw.mp z).elim h2 fun z=>h3 (by have:=As.mp z;cases this;exact hx)) (fun z=>h3 (hs _ z)) (Reps.grow hx hs r)
 |_,_,.lst h1 h2 h3 r=>.lst h1 (fun z=>(Aw.mp z).elim h2 fun z=>h3 (by have:=As.mp z;cases this;exact hx)) (fun z=>h3 (hs _ z)) (Reps.grow hx hs r)
 |_,_,.scr h1 h2 h3=>.scr h1 (fun z=>(Aw.mp z).elim h2 fun z=>h3 (by have:=As.mp z;cases this;exact hx)) (fun z=>h3 (hs _ z))
 |_,_,.scrK h=>.scrK h
 |_,_,.dK h1 h2 h3 r=>.dK h1 (fun z=>(Aw.mp z).elim h2 fun z=>h3 (by have:=As.mp z;cases this;exact hx)) (fun z=>h3 (hs _ z)) (RepP.grow hx hs r)
 |_,_,.dT h1 h2 h3 r=>.dT h1 (fun z=>(Aw.mp z).elim h2 fun z=>h3 (by have:=As.mp z;cases this;exact hx)) (fun z=>h3 (hs _ z)) (RepP.grow hx hs r)
 |_,_,.obj h0 h1 h2 h3 r=>.obj h0 h1 (fun z=>(Aw.mp z).elim h2 fun z=>h3 (by have:=As.mp z;cases this;exact hx)) (fun z=>h3 (hs _ z)) (RepP.grow hx hs r)
 |_,_,.cls h=>.cls h
 |_,_,.exc h0 h1 h2 h3 x=>.exc h0 h1 (fun z=>(Aw.mp z).elim h2 fun z=>h3 (by have:=As.mp z;cases this;exact hx)) (fun z=>h3 (hs _ z)) (x.imp fun d u h n q=>⟨h,fun z=>(Aw.mp z).elim n fun z=>q (by have:=As.mp z;cases this;exact hx),fun z=>q (hs _ z)⟩)
 |_,_,.loc h1 h2=>.loc (by rw[Av];lia) fun a ha=>h2 a (by rw[A8 h1]at ha;exact ha)
theorem Reps.grow {β:AO} {O O':Addr->Prop} {x:Addr} (hx:O x) (hs:∀a,O' a->O a):∀{v:List V3} {w:List V},Reps κ β O H v w->Reps κ (β++[some x]) O' H v w
 |_,_,.nil=>.nil
 |_,_,.cons a r=>.cons (Rep.grow hx hs a) (Reps.grow hx hs r)
theorem RepP.grow {β:AO} {O O':Addr->Prop} {x:Addr} (hx:O x) (hs:∀a,O' a->O a):∀{α:Type} {v:List (α×V3)} {w:List (α×V)},RepP κ β O H v w->RepP κ (β++[some x]) O' H v w
 |_,_,_,.nil=>.nil
 |_,_,_,.cons a r=>.cons (Rep.grow hx hs a) (RepP.grow hx hs r)
end
theorem CellR.grow {β:AO} {O O':Addr->Prop} {x:Addr} (hx:O x) (hs:∀a,O' a->O a) {c:C3} {a:Addr} (r:CellR κ β O H c a):CellR κ (β++[some x]) O' H c a:=by
 cases c with
 |lst xs=>obtain⟨_,q,r⟩:=r;exact⟨_,q,r.grow hx hs⟩
 |dK xs=>obtain⟨_,q,r⟩:=r;exact⟨_,q,r.grow hx hs⟩
 |dT xs=>obtain⟨_,q,r⟩:=r;exact⟨_,q,r.grow hx hs⟩
 |ins c fs=>obtain⟨_,_,_,k,q,r⟩:=r;exact⟨_,_,_,k,q,r.grow hx hs⟩
 |dead=>exact r.elim
theorem Rel.cell {c:C3} {x:Addr} (r1:Rel κ (F.with x) σ H) (hc:CellR κ F.β (F.with x).O H c x):Rel κ (F.to (F.β++[some x]) (F.h++[c])) σ H/\Rep κ (F.β++[some x]) F.O H (.loc F.h.length) (.ref x):=by
 have hl:F.β.length=F.h.length:=r1.heap.len;have nx:some x∉F.β:=r1.offp;have nO: ¬F.O x:=r1.apart;have hxO:(F.with x).O x:= .inl Aj
 have hs:∀a,F.O a->(F.with x).O a:=fun a ha=>Fr.O_with ha
 have rd:=r1.drop;have last:∀{i:Nat} {a:Addr},F.β.length<=i->(F.β++[some x])[i]? =some (some a)->a=x/\i=F.β.length:=fun {i a} hi h=>by
  have h0:=(An.mp h).1;rw[Bo hi]at h;have:=Ap h;simp at this;simp at h0;exact⟨this,by lia⟩
 refine⟨⟨⟨?_,fun i j a h1 h2=>?_,fun a ha z=>?_,rd.heap.trk,fun i a q=>?_,fun i c' hc'=>?_⟩,rd.slen,rd.llen,rd.linj,rd.lt,rd.lo,rd.to,rd.tn,fun i y hy=>?_⟩,?_⟩
 .show (F.β++[some x]).length=(F.h++[c]).length;simp[hl]
 .have h1:(F.β++[some x])[i]? =some (some a):=h1
  have h2:(F.β++[some x])[j]? =some (some a):=h2
  rcases Cp i F.β.length with hi|hi<;>rcases Cp j F.β.length with hj|hj
  .rw[A8 hi]at h1;rw[A8 hj]at h2;exact r1.heap.inj i j a h1 h2
  .obtain⟨rfl,_⟩:=last hj h2;rw[A8 hi]at h1;exact absurd (Ap h1) nx
  .obtain⟨rfl,_⟩:=last hi h1;rw[A8 hj]at h2;exact absurd (Ap h2) nx
  .have a1:=(last hi h1).2;have a2:=(last hj h2).2;lia
 .have z:some a∈F.β++[some x]:=z
  rcases Aw.mp z with z|z
  .exact rd.heap.off a ha z
  .have:=As.mp z;cases this;exact nO ha
 .have q:(F.β++[some x])[i]? =some (some a):=q
  rcases Cp i F.β.length with hi|hi
  .rw[A8 hi]at q;exact r1.heap.btr i a q
  .rw[(last hi q).1];exact r1.heap.trk x hxO
 .have hc':(F.h++[c])[i]? =some c':=hc'
  rcases Cp i F.h.length with hi|hi
  .rw[A8 hi]at hc'
   refine (r1.heap.cell i c' hc').imp id fun ⟨a,ha,q⟩=>⟨a,?_,q.grow hxO hs⟩
   show (F.β++[some x])[i]? =_;rw[A8 (by lia)];exact ha
  .rw[Bo hi]at hc'
   have h0:=(An.mp hc').1;simp at h0;rw[h0]at hc';cases hc';have ei:i=F.h.length:=by lia
   subst ei
   refine .inr ⟨x,?_,hc.grow hxO hs⟩
   show (F.β++[some x])[F.h.length]? =_;rw[<-hl];simp
 .obtain⟨v,h1,h2⟩:=r1.slot i y hy
  refine⟨v,h1,?_⟩
  cases y with
  |v y=>exact Rep.grow hxO hs h2
  |m c=>obtain⟨a,a1,a2,a3⟩:=h2;exact⟨a,a1,a2,a3.grow hxO hs⟩
 .refine .loc (by simp[hl]) fun a ha=>?_
  rw[<-hl]at ha;simp at ha;rw[ha]
def Q1 {d:E3} {σ:L2.St} {H:Hp} {Q:VK} (h:zh κ E (eGl d) σ H Q):zh κ E d σ H Q:=by
 obtain⟨F,rel,o⟩:=h
 refine⟨F,rel,?_⟩
 unfold eGl at o;cases q:d F.s F.h with
 |no=>rw[q]at o;exact o
 |ex x h1=>rw[q]at o;exact o
 |ok r h1=>
  rw[q]at o;intro β1 v H1 e1 p1;cases r with
  |v x=>exact o β1 v H1 e1 p1
  |m c=>
   obtain⟨x,rfl,r1,hc,hn⟩:=p1;obtain⟨r2,rl⟩:=Rel.cell (F:=F.to β1 h1) r1 hc;have nx:some x∉β1:=r1.offp
   refine o (β1++[some x]) (.ref x) H1 ⟨fun a u ha hb m=>?_,by rw[Av];have:=e1.len;lia,fun i a hi hh=>?_,e1.there,fun i a hi hh=>?_⟩ ⟨r2,rl⟩
   .obtain⟨q1,q2⟩:=e1.keep a u ha hb m
    refine⟨q1,fun z=>?_⟩
    rcases Aw.mp z with z|z
    .exact q2 z
    .have:=As.mp z;cases this
     rw[hn]at ha;cases ha
   .rw[A8 (by have:=e1.len;lia)]at hh
    exact e1.bet i a hi hh
   .rcases Cp i β1.length with h2|h2
    .rw[A8 h2]at hh;exact e1.nwb i a hi hh
    .rw[Bo h2]at hh
     have:a=x:=by have:=Ap hh;simp at this;exact this
     rw[this];exact hn
def r_gl {d:E3} (h:PE X e (zh κ E d)):PE X e (zh κ E (eGl d)):=ym h fun _ _ _=>Q1
def qx (neg:Bool):F2:=fun s h x y=>(inO neg s h x y).map fun b=>.v (.bl b)
def rInT (κ:Kx) (neg:Bool):R2:=fun v w H Q=> ∃F σ x y b,Rel κ F σ H/\RfR κ F H x v/\RfR κ F H y w/\inO neg F.s F.h x y=some b/\Q (.bl b) H
def Q2 {neg:Bool}:OpSim κ (rInT κ neg) (qx neg):=fun F σ H x y z v w Q rel rx ry e k=>by
 unfold qx at e;cases q:inO neg F.s F.h x y with
 |none=>rw[q]at e;cases e
 |some b=>rw[q]at e;cases e;exact⟨F,σ,x,y,b,rel,rx,ry,q,k _ H Ext.refl ⟨rel,.bl _⟩⟩
def Q3:OpSim κ (rInT κ false) (qx false):=Q2
def Lj {h:H3} {n:Nat} (rel:RelH κ F.O F.β h H) (hh:F.h=h) (ih:∀{x x' z:V3} {v:V} {b b':Bool},Rep κ F.β F.O H x v->Rep κ F.β F.O H x' v->zA h n x z=some b->zA h n x' z=some b'->b=b'):
  ∀{xs xs' zs:List V3} {vs:List V} {b b':Bool},Reps κ F.β F.O H xs vs->Reps κ F.β F.O H xs' vs->yf (zA h n) xs zs=some b->yf (zA h n) xs' zs=some b'->b=b':=by
 intro xs
 induction xs with
 |nil=>intro xs' zs vs b b' r1 r2 e1 e2;cases r1;cases r2;rw[e1]at e2;cases e2;rfl
 |cons x xs ihx=>
  intro xs' zs vs b b' r1 r2 e1 e2;cases r1 with
  |cons a1 t1=>
   cases r2 with
   | @cons x' _ xs' _ a2 t2=>
    cases zs with
    |nil=>unfold yf at e1 e2;cases e1;cases e2;rfl
    |cons z zs=>
     unfold yf at e1 e2;cases q1:zA h n x z with
     |none=>simp only[q1]at e1;cases e1
     |some c1=>
      cases q2:yf (zA h n) xs zs with
      |none=>simp only[q1,q2]at e1;cases e1
      |some c2=>
       cases q3:zA h n x' z with
       |none=>simp only[q3]at e2;cases e2
       |some c3=>
        cases q4:yf (zA h n) xs' zs with
        |none=>simp only[q3,q4]at e2;cases e2
        |some c4=>
         simp only[q1,q2]at e1;simp only[q3,q4]at e2;cases e1;cases e2;rw[ih a1 a2 q1 q3,ihx t1 t2 q2 q4]
theorem Ia (rel:RelH κ F.O F.β F.h H):∀(n:Nat) {x x' z:V3} {v:V} {b b':Bool},Rep κ F.β F.O H x v->Rep κ F.β F.O H x' v->zA F.h n x z=some b->zA F.h n x' z=some b'->b=b'
 |0,x,x',z,v,b,b',rx,rx',e,e'=>by
  have kx:=qF rel rx;have kx':=qF rel rx';unfold zA at e e';cases h1:z7 F.h x<;>cases h2:z7 F.h x'<;>cases h3:z7 F.h z<;>simp only[h1,h2,h3]at e e' kx kx'<;>first|(cases e;done)|(cases e';done)|skip
  rw[kx.1]at kx';rw[kx'.1]at e;rw[e]at e';cases e';rfl
 |n+1,x,x',z,v,b,b',rx,rx',e,e'=>by
  have kx:=qF rel rx;have kx':=qF rel rx';unfold zA at e e';have nof:∀{a0:V} {a:Addr},v=a0/\AR a0=true->v=.ref a->False:=fun h1 h2=>by rw[<-h1.1,h2]at h1;exact absurd h1.2 (by simp[AR])
  cases h1:z7 F.h x<;>cases h2:z7 F.h x'<;>simp only[h1,h2]at kx kx'
  case o.f=>cases h3:z7 F.h z<;>simp only[h1,h3]at e<;>cases e
  case o.l=>cases h3:z7 F.h z<;>simp only[h1,h3]at e<;>cases e
  case o.t=>cases h3:z7 F.h z<;>simp only[h1,h3]at e<;>cases e
  case o.o=>cases h3:z7 F.h z<;>simp only[h1,h3]at e<;>cases e
  case f.o=>cases h3:z7 F.h z<;>simp only[h2,h3]at e'<;>cases e'
  case l.o=>cases h3:z7 F.h z<;>simp only[h2,h3]at e'<;>cases e'
  case t.o=>cases h3:z7 F.h z<;>simp only[h2,h3]at e'<;>cases e'
  case f.l=>obtain⟨a,_,ev,_⟩:=kx';exact (nof kx ev).elim
  case f.t=>obtain⟨a,_,ev,_⟩:=kx';exact (nof kx ev).elim
  case l.f=>obtain⟨a,_,ev,_⟩:=kx;exact (nof kx' ev).elim
  case t.f=>obtain⟨a,_,ev,_⟩:=kx;exact (nof kx' ev).elim
  case l.t=>obtain⟨a,_,ev,k1,_⟩:=kx;obtain⟨a',_,ev',k2,_⟩:=kx';rw[ev]at ev';cases ev';rw[k1]at k2;cases k2
  case t.l=>obtain⟨a,_,ev,k1,_⟩:=kx;obtain⟨a',_,ev',k2,_⟩:=kx';rw[ev]at ev';cases ev';rw[k1]at k2;cases k2
  case f.f a a'=>
   have:a=a':=by rw[<-kx.1,<-kx'.1]
   subst this;simp only[h1]at e;simp only[h2]at e';rw[e]at e';cases e';rfl
  case l.l xs xs'=>
   obtain⟨a,us,ev,k1,r1⟩:=kx;obtain⟨a',us',ev',k2,r2⟩:=kx';rw[ev]at ev';cases ev';rw[k1]at k2;cases k2;have hl:xs.length=xs'.length:=by rw[r1.length,r2.length]
   cases h3:z7 F.h z<;>simp only[h1,h3]at e<;>simp only[h2,h3]at e'<;>first|(cases e;done)|(cases e;cases e';rfl)|skip
   case l zs=>
    by_cases hz:xs.length=zs.length
    .rw[Aa hz]at e;rw[Aa (by lia)]at e'
     exact Lj rel rfl (fun a b c d=>Ia rel n a b c d) r1 r2 e e'
    .rw[Ac hz]at e;rw[Ac (by lia)]at e';cases e;cases e';rfl
  case t.t xs xs'=>
   obtain⟨a,us,ev,k1,r1⟩:=kx;obtain⟨a',us',ev',k2,r2⟩:=kx';rw[ev]at ev';cases ev';rw[k1]at k2;cases k2;have hl:xs.length=xs'.length:=by rw[r1.length,r2.length]
   cases h3:z7 F.h z<;>simp only[h1,h3]at e<;>simp only[h2,h3]at e'<;>first|(cases e;done)|(cases e;cases e';rfl)|skip
   case t zs=>
    cases q1:yf (zA F.h n) xs zs with
    |none=>rw[q1]at e;cases e
    |some c1=>
     cases q2:yf (zA F.h n) xs' zs with
     |none=>rw[q2]at e';cases e'
     |some c2=>
      rw[q1]at e;rw[q2]at e';cases e;cases e';rw[Lj rel rfl (fun a b c d=>Ia rel n a b c d) r1 r2 q1 q2,hl]
end
section
variable {X:Cx} {κ:Kx} {E:XK} {F F':Fr} {σ σ':L2.St} {H H1 H':Hp} {Q:VK} {p:Addr} {e a b c o:Expr} {es:List Expr} {pos apos np cpos:Pos} {i:Nat} {D:Ends}
theorem Lk {α β:Type} {f:α->Option β}:∀{l:List α} {m:List β},zF f l=some m->l.length=m.length/\∀(j:Nat) x,l[j]? =some x->∃y,m[j]? =some y/\f x=some y
 | [],_,e=>by cases e;exact⟨rfl,fun j x h=>by simp at h⟩
 |x::r,m,e=>by
  obtain⟨y,l',h1,h2,rfl⟩:=HQ e;obtain⟨i1,i2⟩:=Lk h2
  refine⟨by simp[i1],fun j x' h=>?_⟩
  cases j with
  |zero=>simp at h;subst h;exact⟨y,rfl,h1⟩
  |succ j=>exact i2 j x' (by simpa using h)
open Classical in
def Ll {pins:AL} {s:Shared} {σ2:L2.St} {xs:List V3} {us:List V} {its:List Value} {bs:List Bool} {x3:V3} {v:V} {vv:Value} {A:Around} (I:Inv X pins σ2 H s) (rel:RelH κ F.O F.β F.h H) (rs:Reps κ F.β F.O H xs us) (rv:Vals us its) (rx:Rep κ F.β F.O H x3 v) (rvv:RelV v vv) (q:zF (fun b=>zA F.h 8 b x3) xs=some bs) (hu:A.units+8<cLine):
  ∃e:Value->Bool,(∀y,y∈its.toArray->SeqAt.EqAt A s y vv (e y))/\its.toArray.any e=bs.any id:=by
 obtain⟨hl,hg⟩:=Lk q;have l1:=rs.length;have l2:=rv.length
 let e:Value->Bool:=fun y=>decide (∃(j:Nat) (z:V3),xs[j]? =some z/\its[j]? =some y/\zA F.h 8 z x3=some true)
 have at':∀(j:Nat) (y:Value),its[j]? =some y->∃z u b,xs[j]? =some z/\us[j]? =some u/\RelV u y/\Rep κ F.β F.O H z u/\bs[j]? =some b/\zA F.h 8 z x3=some b/\e y=b:=fun j y hy=>by
  have hj:j<its.length:=(An.mp hy).1;obtain⟨u,hu',ru⟩:=rs.get (zH (show j<xs.length by lia))
  obtain⟨y',hy',ry'⟩:=rv.get hu';rw[hy]at hy';cases hy';obtain⟨b,hb,eb⟩:=hg j _ (zH (show j<xs.length by lia))
  refine⟨_,u,b,zH (show j<xs.length by lia),hu',ry',ru,hb,eb,?_⟩
  cases b with
  |true=>exact Bk ⟨j,_,zH (show j<xs.length by lia),hy,eb⟩
  |false=>
   refine Be fun ⟨j',z',h1,h2,h3⟩=>?_
   obtain⟨u',hu2,ru2⟩:=rs.get h1;obtain⟨y2,hy2,ry2⟩:=rv.get hu2;rw[h2]at hy2;cases hy2;have:=RelV.inj ry' ry2;subst this;have:=Ia rel 8 ru ru2 eb h3;cases this
 refine⟨e,fun y hy=>?_,?_⟩
 .obtain⟨j,hj⟩:=Bz (show y∈its by simpa using hy)
  obtain⟨z,u,b,h1,h2,h3,h4,h5,h6,h7⟩:=at' j y hj;rw[h7];exact (HN rel 8 I h4 rx h3 rvv h6 hu).2
 .rw[List.any_toArray,Co,C2,C2]
  constructor
  .rintro⟨y,hy,ey⟩
   obtain⟨j,hj⟩:=Bz hy;obtain⟨z,u,b,h1,h2,h3,h4,h5,h6,h7⟩:=at' j y hj;rw[h7]at ey;subst ey;exact⟨true,Ap h5,rfl⟩
  .rintro⟨b,hb,eb⟩
   have eb:b=true:=eb;subst eb;obtain⟨j,hj⟩:=Bz hb;have hj2:j<its.length:=by have:=(An.mp hj).1;lia
   obtain⟨z,u,b,h1,h2,h3,h4,h5,h6,h7⟩:=at' j _ (zH hj2);rw[hj]at h5;cases h5;exact⟨_,Df hj2,h7⟩
def Q4 (neg:Bool) (hK:X.K=κ.K) (hu:X.A.units+9<cLine):OpR X (compareOp (if neg then .NotIn else .In)) (rInT κ neg):=by
 intro pins s σ H x y v u Q I rx ry h;obtain⟨F,σ',x3,y3,b,rel,r1,r2,e,q⟩:=h;unfold inO at e;cases x3 with
 |s i=>cases e
 |x a=>
  have r1:Rep κ F.β F.O H a x:=r1;simp only at e;have zW:∀{bs:List Bool},b=(if neg then !bs.any id else bs.any id)->EP X pins σ Q (.bool (if neg then !bs.any id else bs.any id)) s:=fun hb=>⟨.bl b,H,I,by rw[hb];rfl,q⟩
  have lists:∀xs,rdl F.s F.h y3=some xs->(zF (fun b=>zA F.h 8 b a) xs).map (fun bs=>if neg then !bs.any id else bs.any id)=some b->wpAny (model X.prog X.w) X.A (compareOp (if neg then .NotIn else .In) v u) (EP X pins σ Q) X.xe s:=fun xs hx e=>by
   cases q2:zF (fun b=>zA F.h 8 b a) xs with
   |none=>rw[q2]at e;cases e
   |some bs=>
    rw[q2]at e;obtain⟨l,us,rfl,sq,rs⟩:=AB rel r2 hx;cases ry;obtain⟨its,rv,pl,_⟩:=I.list (show SqL X.K H l us by rw[hK];exact sq)
    obtain⟨ee,h1,h2⟩:=Ll (A:=X.A.in1) I rel.heap rs rv r1 rx q2 (by show X.A.units+1+8<cLine;lia)
    cases neg with
    |false=>exact SeqAt.in_listAt ee pl.isList h1 (by rw[h2];exact zW (bs:=bs) (by cases e;rfl))
    |true=>exact SeqAt.notIn_listAt ee pl.isList h1 (by rw[h2];exact zW (bs:=bs) (by cases e;rfl))
  split at e
  .rename_i xs hx
   split at hx
   .rename_i zs
    cases hx;cases q2:zF (fun b=>zA F.h 8 b a) xs with
    |none=>rw[q2]at e;cases e
    |some bs=>
     rw[q2]at e;cases (show Rep κ F.β F.O H (.tup xs) y from r2) with
     | @tup _ us l t1 t2 t3 rs=>
      cases ry;obtain⟨its,rv,pl,_⟩:=I.tuple (SqT.of (K:=X.K) t1);obtain⟨ee,h1,h2⟩:=Ll (A:=X.A.in1) I rel.heap rs rv r1 rx q2 (by show X.A.units+1+8<cLine;lia)
      cases neg with
      |false=>exact SeqAt.in_tupleAt ee (show s.heap.IsTuple l its.toArray from pl) h1 (by rw[h2];exact zW (bs:=bs) (by cases e;rfl))
      |true=>exact SeqAt.notIn_tupleAt ee (show s.heap.IsTuple l its.toArray from pl) h1 (by rw[h2];exact zW (bs:=bs) (by cases e;rfl))
   .exact lists xs hx e
  .cases e
def Q5 (hK:X.K=κ.K) (hu:X.A.units+9<cLine):OpR X (compareOp .In) (rInT κ false):=Q4 false hK hu
end
end L3
namespace L2
open PySem PySem.Spec PyProof.Rows
open PySem.Builtin.Str (occurrences)
section
variable {X:Cx} {e a b c o:Expr} {ta tb tc:TE} {pos:Pos}
def Q6:yy X (.type "str") (fun xs H Q=> ∃x,xs=[.str x]/\Q (.str x) H):=by
 intro pins s σ H xs us Q I r h;obtain⟨x,rfl,q⟩:=h;obtain⟨u,rfl,t,rfl⟩:=AQ r;exact PySem.P.str_of_str ⟨.str x,H,I,⟨_,rfl⟩,q⟩
def tFmt (ta:TE):TE:=fun σ H Q=>ta σ H fun x H1=>(∃i:Int,x=.int i/\i.natAbs.log2<1920/\Q (.str (toString i)) H1)\/∃y,x=.str y/\y.length<=100000/\Q (.str y) H1
def Lm (ha:PE X a ta):PE X (.FormattedValue a (-1) none pos) (tFmt ta):=by
 intro pins s σ H Q I h
 refine wpAny_FormattedValue_plain (Bj (ha pins s σ H _ I h) (fun v s1 ⟨x,H1,I1,r1,q⟩=>?_) fun _ _ e=>e)
 rcases q with ⟨i,rfl,hi,q⟩|⟨y,rfl,hy,q⟩
 .obtain⟨t,rfl⟩:=r1
  exact wpAny_formatField_int hi ⟨.str _,H1,I1.tok _,⟨_,rfl⟩,q⟩
 .obtain⟨t,rfl⟩:=r1
  exact wpAny_formatField_str ⟨.str y,H1,I1,⟨_,rfl⟩,q⟩ ⟨.str y,H1,I1.tok _,⟨_,rfl⟩,q⟩ (Bi hy (by decide))
def tF3 (ta tb tc:TE):TE:=fun σ H Q=>ta σ H fun x H1=> ∃i,x=.str i/\i.length<=10000/\tb σ H1 fun y H2=> ∃j,y=.str j/\j.length<=10000/\tc σ H2 fun z H3=> ∃k,z=.str k/\k.length<=10000/\Q (.str (i++j++k)) H3
def Q7 (ha:PE X a ta) (hb:PE X b tb) (hc:PE X c tc):PE X (.JoinedStr [a,b,c] pos) (tF3 ta tb tc):=by
 intro pins s σ H Q I h;have sz:40000<=sizeLine:=by decide
 refine wpAny_JoinedStr ?_
 refine Bj (ha pins s σ H _ I h) (fun v s1 ⟨x,H1,I1,r1,i,ei,li,q1⟩=>?_) fun _ _ e=>e
 subst ei;obtain⟨t1,rfl⟩:=r1;have e0:Str.empty++i=i:=Str.empty_append i
 refine⟨i,t1,rfl,by rw[e0];lia,?_⟩
 rw[e0]
 refine Bj (hb pins s1 σ H1 _ I1 q1) (fun v s2 ⟨x,H2,I2,r2,j,ej,lj,q2⟩=>?_) fun _ _ e=>e
 subst ej;obtain⟨t2,rfl⟩:=r2
 refine⟨j,t2,rfl,by rw[Dg];lia,?_⟩
 refine Bj (hc pins s2 σ H2 _ I2 q2) (fun v s3 ⟨x,H3,I3,r3,k,ek,lk,q3⟩=>?_) fun _ _ e=>e
 subst ek;obtain⟨t3,rfl⟩:=r3
 refine⟨k,t3,rfl,by rw[Dg,Dg];lia,?_⟩
 exact⟨by rw[Dg,Dg];lia,.str _,H3,I3.tok _,⟨_,rfl⟩,q3⟩
end
end L2
namespace L2
open PySem PySem.Spec PyProof.Rows
def isFr (a:Addr) (cls:Value) (dd:Option Addr):Heap->Prop:=fun h=> ∃o vs t0,h.get? a=some o/\o.cls=cls/\o.data=.fields vs/\o.dict=dd/\vs[0]? =some (.ref t0)/\vs[1]? =some .none
abbrev z0 (a:Addr) (cls:Value) (dd:Option Addr):HO:= .ext (isFr a cls dd)
def Ib {P:Program} {w:World} {H:Hp} {h:Heap} {a:Addr} {cls:Value} {dd:Option Addr} (x:isFr a cls dd h):ObjOk P w H h a (z0 a cls dd):=
 ⟨x,let ⟨o,_,_,e,_⟩:=x;⟨o,e⟩,fun h1 h2 ⟨o,vs,t0,e,r⟩ k=>⟨o,vs,t0,k o e,r⟩⟩
structure CB (K:FG) (B:Addr):Prop where
 sp:PySem.W.specialIn K (.ref B) "__getattribute__" =some (some (.builtin "type.__getattribute__"))
 rd:PySem.W.readsIn K B (.type "type")=true
 fc:PySem.W.findCls K (.ref B) (.type "type") "__init__" =some (.val (.builtin "ValueError.__init__"))
section
variable {X:Cx} {a B:Addr} {np apos cpos pos pos':Pos} {x:Str} {e1 e2 o value e:Expr} {ta tv:TE} {t:TA}
def Ln (K:FG) (t:TA):TE:=fun σ H Q=>t σ H fun vs H1=> ∃a C dd y,vs=[.ref a,y]/\H1 a=some (z0 a (.ref C) dd)/\(PySem.W.clsIn K C).isSome=true/\PySem.W.subIn K (.ref C) (.type "ValueError")=some true/\Q .non (zi H1 a (z0 a (.ref C) dd))
def Q8 {pl:Sem Bool} (c:CB X.K B) (hg:Gl X x) (hm:X.mg x=some (.ref B)) (ha:PA X [e1,e2] t) (hdb:(x==("__debug__" :Str))=false:=by decide)
  (hst:starEach [e1,e2] X.env=(false,eval e1 X.env)::starEach [e2] X.env:=by rfl) (hpl:(backTo cpos (starEach [e2] X.env)).any (·.1)=false:=by rfl)
  (ht:eval (.Call (.Attribute (.Name x np) "__init__" apos) [e1,e2] [] cpos) X.env=(do
   let ov <-eval (.Name x np) X.env
   standAt apos.atName
   let (f,first) <-holding [ov] (getMethod ov "__init__" pl)
   callWith cpos f first (backTo cpos (starEach [e1,e2] X.env)) (backToKw cpos (keywordEach [] X.env))):=by rfl):
  PE X (.Call (.Attribute (.Name x np) "__init__" apos) [e1,e2] [] cpos) (Ln X.K t):=by
 intro pins s σ H Q I h
 refine PySem.W.methodCall_KW (pl:=pl) (AK I hg hm ?_ hdb) ht
 refine PySem.W.method_cls I.kIn c.sp (PySem.W.cls_value I.kIn c.rd c.fc (by decide+kernel) ?_)
 have I1:Inv X pins σ H {s with toks:=s.toks+1}:=I.tok _
 have hA:=ha cpos pins _ σ H _ I1 h;rw[hst]at hA ⊢
 refine Fp (by show (false || (backTo cpos (starEach [e2] X.env)).any (·.1))=false;rw[hpl]<;>rfl) (Fq (thn hA fun us s2 z=>?_))
 obtain⟨vs,H2,I2,r2,a,C,dd,y,rfl,ea,si,sv,q⟩:=z;obtain⟨u,v,rfl,rx,ry⟩:=EJ r2;cases rx;obtain⟨⟨o,vs,t0,ho,hc,hd,hdd,h0,h1⟩,_⟩:=(show ObjOk X.prog X.w H2 s2.heap a (z0 a (.ref C) dd) from I2.hok a _ ea)
 obtain⟨oc,od,odt,osl⟩:=o;dsimp only at hc hd hdd;subst hc hd hdd;obtain⟨hh,g,d,tk,os⟩:=s2
 refine Dc (P6 (K:=X.K) si sv I2.kIn ho h0 fun h' e1 kp=>?_)
 refine⟨.non,_,I2.write (x:=a) (e:=a) (t':=tk) (by rw[ea];exact trivial) (.inl rfl) (fun b u hb q=>kp b u hb q) ⟨_,e1⟩ (Ib ⟨_,_,hh.objs.size,e1,rfl,rfl,rfl,?_,?_⟩),rfl,q⟩
 .rw[Array.getElem?_setIfInBounds_self_of_lt (C4.mp h0).1]
 .rw[Array.getElem?_setIfInBounds_ne (by decide)];exact h1
def Lo (K:FG) (ta tv:TE):TS:=fun D σ H=>tv σ H fun y H1=>ta σ H1 fun x H2=> ∃a C z,x=.ref a/\y=.str z/\H2 a=some (z0 a (.ref C) none)/\ExN K C/\∀d,H2 d=none->D.nx σ (zi (zi H2 a (z0 a (.ref C) (some d))) d (.xd [(("name" :Str),V.str z)]))
def Q9 (ha:PE X o ta) (hv:PE X value tv) (hs:swapsWith value (some (.Attribute o "name" pos')) pos.line X.env=pure false:=by rfl):PS X (.Assign [.Attribute o "name" pos'] value pos) (Lo X.K ta tv):=by
 intro pins s σ H D I h
 refine plainObj_wpAny_Assign_Attribute (thn (hv pins s σ H _ I h) fun u s1 ⟨y,H1,I1,ry,q⟩=>thn (ha pins s1 σ H1 _ I1 q) fun ov s2 ⟨x,H2,I2,rx,a,C,z,ex,ey,ea,c,q2⟩=>?_) hs
 subst ex;subst ey;obtain rfl:ov=Value.ref a:=rx;obtain⟨t,rfl⟩:=(show RelV (.str z) u from ry)
 obtain⟨⟨o,vs,t0,ho,hc,hd,hdd,h0,h1⟩,_⟩:=(show ObjOk X.prog X.w H2 s2.heap a (z0 a (.ref C) none) from I2.hok a _ ea)
 obtain⟨oc,od,odt,osl⟩:=o;dsimp only at hc hd hdd;subst hc hd hdd;obtain⟨hh,g,dr,tk,os⟩:=s2;have nd:H2 hh.objs.size=none:=I2.hok.fresh (Ag _)
 refine P4 c I2.kIn ho fun h' tk' e1 hn kp=>?_
 have I3:=I2.write (x:=a) (e:=a) (o:=z0 a (.ref C) (some hh.objs.size)) (h':=h') (t':=tk') (by rw[ea];exact trivial) (.inl rfl) (fun b u hb q=>kp b u hb q) ⟨_,e1⟩ (Ib ⟨_,_,t0,e1,rfl,rfl,rfl,h0,h1⟩)
 have ne:hh.objs.size≠a:=fun y=>by rw[<-y,nd]at ea;cases ea
 have F:=Inv.fpOk I2 (b:=hh.objs.size) (Ag _) nd;have I4:=Inv.track (a:=hh.objs.size) (o:= .xd [(("name" :Str),V.str z)]) I3 (by rw[zy ne];exact nd) (by
  cases q:X.s₀.heap.get? hh.objs.size with
  |none=>rfl
  |some o=>exact absurd (Ay (Af q) I2.sz) (Bn _)) F.2.1 F.2.2.2.2.1 F.2.2.2.2.2 ⟨_,hn,fun f=>by
   by_cases hf:f="name"
   .subst hf;exact⟨t,rfl⟩
   .have e2:([(("name" :Str),V.str z)]:List (Str×V)).lookup f=none:=by
     rw[Bp,show (f==("name" :Str))=false from by simpa using hf];rfl
    rw[e2];show RelO none (if f="name" then _ else none)
    rw[Ac hf];trivial⟩
 exact⟨σ,_,I4,q2 _ nd⟩
def QA (K:FG) (ta:TE):TE:=fun σ H Q=>ta σ H fun x H1=> ∃a C d z,x=.ref a/\H1 a=some (excO a (.ref C) (some d))/\H1 d=some (.xd [(("name" :Str),V.str z)])/\ExN K C/\Q (.str z) H1
def QB (he:PE X e ta) (hb:attributeBase e "name" X.env (eval e X.env)=eval e X.env:=by rfl):PE X (.Attribute e "name" pos) (QA X.K ta):=by
 intro pins s σ H Q I h
 refine JP hb (thn (he pins s σ H _ I h) fun u s1 ⟨x,H1,I1,rx,a,C,d,z,ex,ea,ed,c,q⟩=>?_)
 subst ex;obtain rfl:u=Value.ref a:=rx;obtain⟨⟨o,vs,ho,hc,hd,hdd⟩,_⟩:=(show ObjOk X.prog X.w H1 s1.heap a (excO a (.ref C) (some d)) from I1.hok a _ ea)
 obtain⟨mA,hn,hr⟩:=(show ObjOk X.prog X.w H1 s1.heap d (.xd [(("name" :Str),V.str z)]) from I1.hok d _ ed)
 obtain⟨oc,od,odt,osl⟩:=o;dsimp only at hc hd hdd;subst hc hd hdd;have hv:=hr "name";rw[show ([(("name" :Str),V.str z)]:List (Str×V)).lookup ("name" :Str)=some (V.str z) from by rw[Bp,show (("name" :Str)==("name" :Str))=true from by simp]]at hv
 obtain⟨hh,g,dr,tk,os⟩:=s1;cases hm:mA "name" with
 |none=>rw[hm]at hv;exact hv.elim
 |some u=>
  rw[hm]at hv;obtain⟨t,rfl⟩:=(show RelV (.str z) u from hv)
  exact P0 c I1.kIn ho hn.ns hm rfl ⟨.str z,H1,I1.tok _,⟨t,rfl⟩,q⟩
end
def Ic (K:FG) (C:Addr):Bool:=match K.lookup C with
 |some ⟨.type "type",_,.cls cd,sl⟩=>(match cd.mro,sl.toList with
  |.ref C'::bm,[_,_,_,_,some (.builtin n),_]=>C'==C && n=="ValueError.__new__" && !cd.hasDel && PySem.W.tailIn K qO bm
  |_,_=>false)
 |_=>false
structure XI (K:FG) (C f:Addr):Prop extends ExN K C where
 ex:Ic K C=true
 it':PySem.W.findIn K (.ref C) "__init__" =some (some (.ref f))
 fn:PySem.W.typeIn K (.ref f)=some (.type "function")
 sv:PySem.W.subIn K (.ref C) (.type "ValueError")=some true
 kp:PySem.W.keepIn K (.ref C)=true
def XI.own {K:FG} {C f:Addr} {h:Heap} (c:XI K C f) (X:K.In h):∃nm q N bs bm hdct sn sub ab col dd k0 k1 k2 k3 k5,h.get? C=some (excClassObj nm q C N bs bm hdct sn sub ab col dd k0 k1 k2 k3 k5 "ValueError.__new__")/\OwnTail h qO bm:=by
 have q:=c.ex;unfold Ic at q
 split at q
 case h_2=>cases q
 case h_1 dd cd sl ho=>
  split at q
  case h_2=>cases q
  case h_1 C' bm y0 y1 y2 y3 n y5 hm hs=>
   simp only[Ar,Au,Bool.not_eq_true']at q;obtain⟨⟨⟨e1,e2⟩,hdel⟩,ht⟩:=q;subst e1;subst e2;cases cd with
   |mk nm bs mro ns qn hd sn sub ab col del=>
   simp only at hm hdel;cases hm;cases hdel;have e:sl= #[y0,y1,y2,y3,some (.builtin "ValueError.__new__"),y5]:=Array.ext' hs;cases e;exact⟨nm,qn,ns,bs,bm,hd,sn,sub,ab,col,dd,y0,y1,y2,y3,y5,X _ _ ho,PySem.W.tail_of_in X ht⟩
section
variable {prog:Program} {w:World} {A:Around} {E:VP} {h:Heap} {g:Array GenState} {d:Drawn} {t:Nat} {os:OsState} {K:FG} {f:Addr}
variable {nm q:Str} {C N:Addr} {bs bm:List Value} {hdct:Bool} {sn:List Str} {sub:List Value} {ab:Bool} {col:Option Bool} {dd:Option Addr} {k0 k1 k2 k3 k5:Option Value}
def QC (c:XI K C f) (X:K.In h) (T:OwnTail h qO bm) {rest:List Value} {Q:Fin->Shared->Prop}
  (hC:h.get? C=some (excClassObj nm q C N bs bm hdct sn sub ab col dd k0 k1 k2 k3 k5 "ValueError.__new__"))
  (hq:∀h' e,h.objs.size<=e->Heap.MadeExcOf h h' e (.ref C) rest->wpAny (model prog w) A (call (.ref f) (.ref e::rest)) (fun r s'=>r=.none/\Q (.done (.ret (.ref e))) s') E ⟨h',g,d,t,os⟩) (hrest:rest.length<=sizeLine):
  wpAny (model prog w) A (Builtin.«type.__call__» ⟨.ref C::rest,[]⟩) Q E ⟨h,g,d,t,os⟩:=by
 have F:=E7
 repeat (first|with_reducible refine B7 hC ?_|with_reducible refine wpAny_madeBy_exc hC ?_|wp_step)
 refine codeAny_call_builtin_code (Code.quiet_builtin _ F.quiet) (wpAny_check_new_subT F T hC ?_)
 refine codeAny_exc_new_subT F T hC ?_ hrest
 show wpAny _ _ _ _ _ _;generalize hH:((h.push {cls:= .type "tuple",data:= .seq rest.toArray}).push {cls:= .ref C,data:= .fields #[.ref h.objs.size,.none,.none,.none,.bool false,.none]})=h1;have kp:∀b o,h.get? b=some o->h1.get? b=some o:=fun b o e=>by rw[<-hH];exact Ao _ (Ao _ e)
 have hC1:=kp _ _ hC;have hget:h1.get? (h.objs.size+1)=some {cls:= .ref C,data:= .fields #[.ref h.objs.size,.none,.none,.none,.bool false,.none]}:=by rw[<-hH];heap_get
 have hcC:(Value.ref C::bm).contains (.ref C)=true:=by simp
 have X1:K.In h1:=X.keeps kp;unfold isInstance
 repeat (first|with_reducible refine B7 hget ?_|(with_reducible refine wpAny_isSubtype_exc hC1 ?_;rw[hcC])|wp_step)
 refine (Dp X1 c.it').at ?_
 refine Cd (Ab ((PySem.W.bind_fn X1 _ c.fn).at ?_))
 refine Ab (thn (hq h1 (h.objs.size+1) (Dq _) ⟨kp,Fi (Dq _),h.objs.size,hget,Fi (Ag _),by rw[<-hH];exact Ao _ (Heap.get?_push_at rfl rfl)⟩) fun r s' z=>?_)
 obtain⟨rfl,z⟩:=z
 wp_walk
 exact z
def QD (c:XI K C f) (X:K.In h) (T:OwnTail h qO bm) {rest:List Value} {Q:VP}
  (hC:h.get? C=some (excClassObj nm q C N bs bm hdct sn sub ab col dd k0 k1 k2 k3 k5 "ValueError.__new__"))
  (hq:∀h' e,h.objs.size<=e->Heap.MadeExcOf h h' e (.ref C) rest->wpAny (model prog w) (A.under (.builtin "type.__call__" ⟨.ref C::rest,[]⟩)) (call (.ref f) (.ref e::rest)) (fun r s'=>r=.none/\Q (.ref e) s') E ⟨h',g,d,t,os⟩) (hrest:rest.length<=sizeLine):
  wpAny (model prog w) A (call (.ref C) rest) Q E ⟨h,g,d,t,os⟩:=by
 have f1:=tc_lookup;have f2:=tc_bind (.ref C);have hT:(⟨h,g,d,t,os⟩:Shared).TypeIs (.ref C) "type" :=⟨_,hC,rfl⟩
 refine Dc (codeAny_of_tree ?_)
 show wpAny _ _ (callAny (.ref C) _) _ _ _
 repeat (any_goals (first|assumption|with_reducible refine B7 hC ?_|wp_step))
 exact⟨rfl,codeAny_call_builtin_at (Code.quiet_builtin _ (by decide+kernel)) entry_typeCall (wpAny_check_type_call_sub hC (QC c X T hC (fun h' e ge hm=>hq h' e ge hm) hrest))⟩
end
end L2
namespace L4
open PySem PySem.W PyProof.Rows L2
def G5 (tb:String->Option Builtin) (p:Program) (w:World) (m:Nat) (ann:Option Value):Nat->SharedT->Thread->Option SharedT
 |0,_,_=>none
 |n+1,s,t=>match through t with
  |true=>some s
  |false=>match stepOk m ann t with
   |false=>none
   |true=>match stepT (denote tb) p w s t with
    |some (s',t')=>G5 tb p w m ann n s' t'
    |none=>none
theorem Lp {tb:String->Option Builtin} {p:Program} {w:World} {m:Nat} {ann:Option Value}:∀{n:Nat} {s s':SharedT} {t:Thread},G5 tb p w m ann n s t=some s'->topRun tb p w m ann n s.abs t=some s'.abs
 |0,_,_,_,h=>by cases h
 |n+1,s,s',t,h=>by
  unfold G5 at h;unfold topRun;cases he:through t with
  |true=>rw[he]at h;cases h;rfl
  |false=>
   rw[he]at h;cases hk:stepOk m ann t with
   |false=>rw[hk]at h;cases h
   |true=>
    rw[hk]at h;cases hs:stepT (denote tb) p w s t with
    |none=>rw[hs]at h;cases h
    |some r=>
     obtain⟨s2,t2⟩:=r;rw[hs]at h;rw[stepT_spec hs];exact Lp h
def Lq:List Obj->Nat->BT->BT
 | [],_,t=>t
 |o::r,n,t=>Lq r (n+1) (t.ins n o)
def boot (P:Params) (os:OsState):SharedT:=⟨Lq (boot_heap P).objs.toList 0 .nil,11,(boot_heap P).life,Array.mk [],boot_drawn,boot_toks,os⟩
def QE (P:Params) (os:OsState):(boot P os).abs=⟨boot_heap P,Array.mk [],boot_drawn,boot_toks,os⟩:=by kernel_rfl
def QF (P:Params):((boot_heap P).isNs mainGlobals,(boot_heap P).objs.size,(boot_heap P).nsMap mainGlobals "__annotations__")=(true,11,some (.ref 6)):=by kernel_rfl
section
variable (p q:Program) (loose:List Str) {β:Type} (obs:Heap->β)
def looks (P:Params) (s:Shared):=
 ((staticsOk (importedModules p.main.body) (boot_heap P) s.heap && namesBound p s.heap && gensDone s && laidKept (boot_heap P) s.heap),openSeen q loose (importedModules p.main.body) (fun _=>true) true s,obs s.heap)
def Lr (N:Nat) (w:World) (os:OsState):=(G5 treeTable p w 11 (some (.ref 6)) N (boot w.params os) (topStub p)).map fun s=>looks p q loose obs w.params s.abs
end
def left_one {p q:Program} {loose:List Str} {β:Type} {obs:Heap->β} {good:β} {N:Nat} (e:opening p=plainProg p.main.scope.names) (hN:Nat.ble 600 N=true) (f:∀s,fenceModules? p s=some s)
  (h:∀w os,Lr p q loose obs N w os=some (true,openGood q loose,good)):LeftO p q loose (fun _=>true) (fun s=>obs s.heap) (fun _=>good) N:=fun w=>by
 obtain⟨⟨h0,gs,d,k,os⟩,e1,e2⟩:=Ei.mp (boot_open e hN f w);obtain⟨rfl,rfl,rfl,rfl⟩:h0=boot_heap w.params/\gs=Array.mk []/\d=boot_drawn/\k=boot_toks:=by simpa using e2
 obtain⟨s1,r1,r2⟩:=Ei.mp (h w os);have r3:=Lp r1;rw[QE]at r3;obtain⟨z1,z2,z3⟩:_/\_/\_:=by simpa only[Dh] using QF w.params
 obtain⟨l1,l2,l3⟩:_/\_/\_:=by simpa only[looks,Dh] using r2
 have t:topFrom treeTable p w N ⟨boot_heap w.params,Array.mk [],boot_drawn,boot_toks,os⟩=some s1.abs:=by
  unfold topFrom;dsimp only;rw[z1,z2,z3,r3];show (match staticsOk (importedModules p.main.body) (boot_heap w.params) s1.abs.heap && namesBound p s1.abs.heap && gensDone s1.abs && laidKept (boot_heap w.params) s1.abs.heap with|true=>_|false=>_)=_
  rw[l1]
 unfold openEnds;rw[e1];show (topFrom treeTable p w N _).map _=_;rw[t];exact congrArg some (Prod.ext l2 l3)
def frag (as:List Addr) (h:Heap):Frag:=as.filterMap fun a=>(h.get? a).map fun o=>(a,o)
def QG {as:List Addr} {h:Heap}:(frag as h).In h:=by
 intro a o e
 induction as with
 |nil=>cases e
 |cons b r ih=>
  unfold frag at e;rw[Er]at e;cases hb:h.get? b with
  |none=>rw[hb]at e;exact ih e
  |some ob=>
   rw[hb]at e;simp only[Bh,List.lookup]at e
   split at e
   .rename_i q;cases e;rw[Au.mp q];exact hb
   .exact ih e
def Ls:Value->Bool
 |.none=>true
 |_=>false
def QH {v:Value} (h:Ls v=true):v=.none:=by cases v<;>first|rfl|cases h
def FH (K:Frag) (qual:Str):Option (Option Value)->Option (Str×Str×Arguments×FuncBody×Scope×Bool)
 |some (some (.ref f))=>match K.lookup f with
  |some ⟨_,_,.func fd,_⟩=>some (fd.name,fd.qualname,fd.params,fd.body,fd.scope,(Nat.beq fd.globals mainGlobals && fd.closure.isEmpty && Ls fd.defaults && Nat.beq fd.builtins builtinsNs && codeIn K fd.code qual && isFn K (.ref f)))
  |_=>none
 |_=>none
def FI (x qual:Str) (st:Stmt):Option (Str×Str×Arguments×FuncBody×Scope×Bool):=some (x,qual,EL st,.stmts (BN st),zC st,true)
def Ie {K:Frag} {x qual:Str} {st:Stmt} {v:Option (Option Value)} (e:FH K qual v=FI x qual st):
  ∃f fd,v=some (some (.ref f))/\Fun K x qual st f fd/\isFn K (.ref f)=true:=by
 unfold FH at e
 split at e
 .rename_i f
  split at e
  .rename_i oc od fd sl hl
   unfold FI at e;simp only[B0,Dh,Ar]at e;obtain⟨e1,e2,e3,e4,e5,⟨⟨⟨⟨h1,h2⟩,h3⟩,h4⟩,h5⟩,h6⟩:=e
   refine⟨f,fd,rfl,⟨⟨oc,od,fd.kwdefaults,fd.doc,fd.pyModule,fd.annotations,fd.code,fd.closureTuple,sl,?_,hl,h5⟩,?_⟩,h6⟩
   .obtain⟨a1,a2,a3,a4,a5,a6,a7,a8,a9,a10,a11,a12,a13,a14,a15⟩:=fd
    simp only at e1 e2 e3 e4 e5 h1 h2 h3 h4;have h1:=Nat.eq_of_beq_eq_true h1;have h2:=List.isEmpty_iff.mp h2;have h3:=QH h3;have h4:=Nat.eq_of_beq_eq_true h4;subst e1 e2 e3 e4 e5 h1 h2 h3 h4;rfl
   .unfold keepIn
    simp only[hl]
  .cases e
 .cases e
inductive KV where
 |int (i:Int)
 |str (s:Str)
def FJ:Option (Option Value)->Option KV
 |some (some (.int i _))=>some (.int i)
 |some (some (.str s _))=>some (.str s)
 |_=>none
def QI {v:Option (Option Value)} {i:Int} (e:FJ v=some (.int i)):∃t,v=some (some (.int i t)):=by
 unfold FJ at e
 split at e
 .simp only[B0,KV.int.injEq]at e;subst e;exact⟨_,rfl⟩
 .simp at e
 .cases e
def QJ {v:Option (Option Value)} {i:Str} (e:FJ v=some (.str i)):∃t,v=some (some (.str i t)):=by
 unfold FJ at e
 split at e
 .simp at e
 .simp only[B0,KV.str.injEq]at e;subst e;exact⟨_,rfl⟩
 .cases e
def CK:Option (Option Value)->Bool
 |some none=>true
 |_=>false
def FK {v:Option (Option Value)} (e:CK v=true):v=some none:=by
 unfold CK at e
 split at e
 .rfl
 .cases e
def CL (p:Program) (i:Nat):Stmt:=p.main.body.getD i (.Pass ⟨0,0,0,0⟩)
structure Ask where
 law:Nat
 at_:List Addr
 defs:List (Str×Nat)
 cls:List (Str×Nat×List (Str×Str×Nat)×List Str)
 bare:List Str
 con:List (Str×KV)
 exc:List (Str×Bool)
 tab:List (Str×Str×Bool)
 exi:List (Str×Str×Nat×Str×Nat)
def Lu (K:Frag) (C:Addr):Bool:=
 plainGet K C Str.empty && hasDictIn K C && plainOver K C && (findIn K (.ref C) "__setattr__" ==some (some (.builtin "object.__setattr__"))) && makesIn K C && keepIn K (.ref C)
def Lv (K:Frag) (c:Str×Nat×List (Str×Str×Nat)×List Str):Option Value->Option (List (Option (Str×Str×Arguments×FuncBody×Scope×Bool))×Bool×List Bool)
 |some (.ref C)=>some (c.2.2.1.map (fun m=>FH K m.2.1 (findIn K (.ref C) m.1)),Lu K C,c.2.2.2.map fun a=>CK (findIn K (.ref C) a))
 |_=>none
def Ig (K:Frag) (C:Addr):Bool:=
 excIn K C qO "ValueError.__new__" && (clsIn K C).isSome && (findIn K (.ref C) "__getattribute__" ==some (some (.builtin "BaseException.__getattribute__"))) && CK (findIn K (.ref C) "__getattr__") && (findIn K (.ref C) "__class__" ==some (some (.builtin "object.__class__"))) && (subIn K (.ref C) (.type "BaseException")==some true) && (subIn K (.ref C) (.type "object")==some true)
def Lw (K:Frag) (b:Bool):Option Value->Bool
 |some (.ref C)=>match b with
  |true=>Ig K C
  |false=>true
 |_=>false
def Lx:Option CFound->Bool
 |some (.val (.builtin n))=>n=="ValueError.__init__"
 |_=>false
def Ly (K:Frag) (C B:Addr):Bool:=
 Ic K C && (clsIn K C).isSome && (findIn K (.ref C) "__getattribute__" ==some (some (.builtin "BaseException.__getattribute__"))) && CK (findIn K (.ref C) "__getattr__") && (findIn K (.ref C) "__class__" ==some (some (.builtin "object.__class__"))) && (subIn K (.ref C) (.type "BaseException")==some true) && (subIn K (.ref C) (.type "object")==some true) && CK (findIn K (.ref C) "name") && (clsIn K C).any (fun cd=>cd.hasDict && EO cd.mro) && (findIn K (.ref C) "__setattr__" ==some (some (.builtin "object.__setattr__"))) && (subIn K (.ref C) (.type "ValueError")==some true) && keepIn K (.ref C) &&
 (specialIn K (.ref B) "__getattribute__" ==some (some (.builtin "type.__getattribute__"))) && readsIn K B (.type "type") && Lx (findCls K (.ref B) (.type "type") "__init__")
def Lz (K:Frag) (q:Str):Option Value->Option Value->Option (Option (Str×Str×Arguments×FuncBody×Scope×Bool)×Bool)
 |some (.ref C),some (.ref B)=>some (FH K q (findIn K (.ref C) "__init__"),Ly K C B)
 |_,_=>none
def QK (K:Frag) (v:Bool):Option Value->Option Value->Bool
 |some (.ref C),some (.ref B)=>exmOne K (.ref C) (.ref B)==some v && kitOne K (.ref C) (.ref B)==some v
 |_,_=>false
def seenK (A:Ask) (K:Frag):=
 (A.defs.map (fun d=>FH K d.1 (nsIn K mainGlobals d.1)),A.cls.map (fun c=>Lv K c (nsIn K mainGlobals c.1).join),A.bare.map (fun b=>CK (nsIn K mainGlobals b)),A.con.map (fun c=>FJ (nsIn K mainGlobals c.1)),A.exc.map (fun c=>Lw K c.2 (nsIn K mainGlobals c.1).join),A.tab.map (fun r=>QK K r.2.2 (nsIn K mainGlobals r.1).join (nsIn K mainGlobals r.2.1).join),A.exi.map fun r=>Lz K r.2.2.2.1 (nsIn K mainGlobals r.1).join (nsIn K mainGlobals r.2.1).join)
def seen (A:Ask) (h:Heap):=seenK A (frag A.at_ h)
def good (p:Program) (A:Ask):=
 (A.defs.map (fun d=>FI d.1 d.1 (CL p d.2)),
  A.cls.map (fun c=>some (c.2.2.1.map (fun m=>FI m.1 m.2.1 (BM (CL p c.2.1) m.2.2)),true,c.2.2.2.map fun _=>true)),
  A.bare.map (fun _=>true),A.con.map (fun c=>some c.2),A.exc.map (fun _=>true),A.tab.map (fun _=>true),A.exi.map fun r=>some (FI "__init__" r.2.2.2.1 (BM (CL p r.2.2.1) r.2.2.2.2),true))
def lawView (A:Ask) (p:Program):Program:={p with main:={p.main with body:=[CL p A.law]}}
def looseOf (p:Program):List Str:=(p.main.scope.names.map (·.1)).filter fun x=> !(x=="law")
def claim (A:Ask) (N:Nat) (p:Program) (w:World) (os:OsState):=Lr p (lawView A p) (looseOf p) (seen A) N w os
def goal (A:Ask) (p:Program):=some (true,openGood (lawView A p) (looseOf p),good p A)
section
variable {p:Program} {A:Ask} {K:Frag}
def qG {α β:Type} {f g:α->β} {l:List α} {i:Nat} {a:α} (e:l.map f=l.map g) (h:l[i]? =some a):f a=g a:=by
 have:=congrArg (fun z=>z[i]?) e
 simp only[A9,h,Bh,B0]at this;exact this
def def_at (S:seenK A K=good p A) (i:Nat) {d:Str×Nat} (h:A.defs[i]? =some d):∃f fd,nsIn K mainGlobals d.1=some (some (.ref f))/\Fun K d.1 d.1 (CL p d.2) f fd:=by
 obtain⟨f,fd,e,F,_⟩:=Ie (qG (congrArg (fun z=>z.1) S) h)
 exact⟨f,fd,e,F⟩
def bare_at (S:seenK A K=good p A) (i:Nat) {b:Str} (h:A.bare[i]? =some b):nsIn K mainGlobals b=some none:=FK (qG (congrArg (fun z=>z.2.2.1) S) h)
def int_at (S:seenK A K=good p A) (i:Nat) {x:Str} {n:Int} (h:A.con[i]? =some (x,.int n)):∃t,nsIn K mainGlobals x=some (some (.int n t)):=QI (qG (congrArg (fun z=>z.2.2.2.1) S) h)
def str_at (S:seenK A K=good p A) (i:Nat) {x:Str} {n:Str} (h:A.con[i]? =some (x,.str n)):∃t,nsIn K mainGlobals x=some (some (.str n t)):=QJ (qG (congrArg (fun z=>z.2.2.2.1) S) h)
structure ClsAt (p:Program) (K:Frag) (c:Str×Nat×List (Str×Str×Nat)×List Str) (C:Addr):Prop where
 g:nsIn K mainGlobals c.1=some (some (.ref C))
 cls:Cls K C
 makes:makesIn K C=true
 kp:keepIn K (.ref C)=true
 meth:∀(j:Nat) (m:Str×Str×Nat),c.2.2.1[j]? =some m->∃f fd,findIn K (.ref C) m.1=some (some (.ref f))/\Fun K m.1 m.2.1 (BM (CL p c.2.1) m.2.2) f fd/\isFn K (.ref f)=true
 fld:∀(j:Nat) (a:Str),c.2.2.2[j]? =some a->NoAttr K C a
def G6 {v:Option (Option Value)} {x:Value} (h:v.join=some x):v=some (some x):=by
 cases v with
 |none=>cases h
 |some v=>cases h;rfl
def exc_at (S:seenK A K=good p A) (i:Nat) {x:Str} {b:Bool} (h:A.exc[i]? =some (x,b)):∃C,nsIn K mainGlobals x=some (some (.ref C))/\(b=true->excIn K C qO "ValueError.__new__" =true/\ExK K C):=by
 have e:=qG (congrArg (fun z=>z.2.2.2.2.1) S) h
 unfold Lw at e
 split at e
 .rename_i C hC
  refine⟨C,G6 hC,fun hb=>?_⟩
  have hb:b=true:=hb;subst hb;have e:Ig K C=true:=e;unfold Ig at e;simp only[Ar]at e;obtain⟨⟨⟨⟨⟨⟨h1,h2⟩,h3⟩,h4⟩,h5⟩,h6⟩,h7⟩:=e;exact⟨h1,h2,Au.mp h3,FK h4,Au.mp h5,Au.mp h6,Au.mp h7⟩
 .cases e
def tab_at (S:seenK A K=good p A) (i:Nat) {x y:Str} {v:Bool} {C B:Addr} (h:A.tab[i]? =some (x,y,v)) (hC:nsIn K mainGlobals x=some (some (.ref C))) (hB:nsIn K mainGlobals y=some (some (.ref B))):exmOne K (.ref C) (.ref B)=some v/\kitOne K (.ref C) (.ref B)=some v:=by
 have e:=qG (congrArg (fun z=>z.2.2.2.2.2.1) S) h
 dsimp only at e;rw[hC,hB]at e;have e:(exmOne K (.ref C) (.ref B)==some v && kitOne K (.ref C) (.ref B)==some v)=true:=e;rw[Ar]at e;exact⟨Au.mp e.1,Au.mp e.2⟩
def xi_at (S:seenK A K=good p A) (i:Nat) {r:Str×Str×Nat×Str×Nat} (h:A.exi[i]? =some r):∃C B f fd,nsIn K mainGlobals r.1=some (some (.ref C))/\nsIn K mainGlobals r.2.1=some (some (.ref B))/\XI K C f/\CB K B/\Fun K "__init__" r.2.2.2.1 (BM (CL p r.2.2.1) r.2.2.2.2) f fd:=by
 have e:=qG (congrArg (fun z=>z.2.2.2.2.2.2) S) h
 unfold Lz at e
 split at e
 .rename_i C B hC hB
  simp only[B0,Dh]at e;obtain⟨e1,e2⟩:=e;obtain⟨f,fd,ef,F,isf⟩:=Ie e1;unfold Ly at e2;simp only[Ar]at e2;obtain⟨⟨⟨⟨⟨⟨⟨⟨⟨⟨⟨⟨⟨⟨h1,h2⟩,h3⟩,h4⟩,h5⟩,h6⟩,h7⟩,h8⟩,h9⟩,h10⟩,h11⟩,h12⟩,h13⟩,h14⟩,h15⟩:=e2
  refine⟨C,B,f,fd,G6 hC,G6 hB,⟨⟨⟨h2,Au.mp h3,FK h4,Au.mp h5,Au.mp h6,Au.mp h7⟩,FK h8,h9,Au.mp h10⟩,h1,ef,Au.mp isf,Au.mp h11,h12⟩,⟨Au.mp h13,h14,?_⟩,F⟩
  unfold Lx at h15
  split at h15
  .rename_i n hn
   rw[hn,Au.mp h15]
  .cases h15
 .cases e
def cls_at (S:seenK A K=good p A) (i:Nat) {c:Str×Nat×List (Str×Str×Nat)×List Str} (h:A.cls[i]? =some c):∃C,ClsAt p K c C:=by
 have e:=qG (congrArg (fun z=>z.2.1) S) h
 unfold Lv at e
 split at e
 .rename_i C hC
  simp only[B0,Dh]at e;obtain⟨e1,e2,e3⟩:=e;unfold Lu at e2;simp only[Ar]at e2;obtain⟨⟨⟨⟨⟨h1,h2⟩,h3⟩,h4⟩,h5⟩,h6⟩:=e2
  refine⟨C,G6 hC,⟨h1,h2,h3,?_⟩,h5,h6,fun j m hm=>?_,fun j a ha=>?_⟩
  .exact Au.mp h4
  .exact Ie (qG e1 hm)
  .exact FK (qG e3 ha)
 .cases e
end
section
variable {K:Frag} {x qual:Str} {st:Stmt} {f:Addr} {fd:FuncData} {p1 p2 p3 p4 p5 p6 p7 p8:Str}
abbrev Bd (x qual:Str) (st:Stmt) (us:List Value) (r:List (Str×Value)):Prop:=∀(kV doc pm:Value) (an:Option Addr) (cdv ct:Value),bindArgs (fnOf x qual (EL st) (BN st) (zC st) .none kV doc pm an cdv ct) ⟨us,[]⟩=pure r
def AG {us:List Value} {n:Nat} (h:us.length=n+1):∃a r,us=a::r/\r.length=n:=by
 cases us with
 |nil=>cases h
 |cons a r=>exact⟨a,r,rfl,by simpa using h⟩
theorem b1 (F:Fun K x qual st f fd) (h:∀a,Bd x qual st [a] [(p1,a)]):Binds K fd [p1] []:=F.binds fun _ _ _ _ _ _ us h0=>by
 obtain⟨a,u1,rfl,h1⟩:=AG h0;obtain rfl:u1=[]:=Dy h1;exact h _ _ _ _ _ _ _
theorem b2 (F:Fun K x qual st f fd) (h:∀a b,Bd x qual st [a,b] [(p1,a),(p2,b)]):Binds K fd [p1,p2] []:=F.binds fun _ _ _ _ _ _ us h0=>by
 obtain⟨a,u1,rfl,h1⟩:=AG h0;obtain⟨b,u2,rfl,h2⟩:=AG h1;obtain rfl:u2=[]:=Dy h2;exact h _ _ _ _ _ _ _ _
theorem b3 (F:Fun K x qual st f fd) (h:∀a b c,Bd x qual st [a,b,c] [(p1,a),(p2,b),(p3,c)]):Binds K fd [p1,p2,p3] []:=F.binds fun _ _ _ _ _ _ us h0=>by
 obtain⟨a,u1,rfl,h1⟩:=AG h0;obtain⟨b,u2,rfl,h2⟩:=AG h1;obtain⟨c,u3,rfl,h3⟩:=AG h2;obtain rfl:u3=[]:=Dy h3;exact h _ _ _ _ _ _ _ _ _
theorem b4 (F:Fun K x qual st f fd) (h:∀a b c d,Bd x qual st [a,b,c,d] [(p1,a),(p2,b),(p3,c),(p4,d)]):Binds K fd [p1,p2,p3,p4] []:=F.binds fun _ _ _ _ _ _ us h0=>by
 obtain⟨a,u1,rfl,h1⟩:=AG h0;obtain⟨b,u2,rfl,h2⟩:=AG h1;obtain⟨c,u3,rfl,h3⟩:=AG h2;obtain⟨d,u4,rfl,h4⟩:=AG h3;obtain rfl:u4=[]:=Dy h4;exact h _ _ _ _ _ _ _ _ _ _
theorem binds_law (F:Fun K x qual st f fd) (h:∀a,Bd x qual st [a] [(p1,a)]) (s:Shared) (u:Value):BindsTo s fd ⟨[u],[]⟩ [(p1,u)]:=by
 obtain⟨oc,od,kV,doc,pm,an,cdv,ct,osl,rfl,lk,hcd⟩:=F.ex;exact .of_eq (h u _ _ _ _ _ _)
end
def walk_one {l:OpenLaw} {n k:Nat} {q:Program} {loose:List Str} {XP:(Str->Option Value)->Heap->Prop} {A:Ask} {d:DefRec} {CX:World->qw} {sp:Frag->Sp} {x:Str}
  (hn:l.most=some n) (hn2:n<=sizeLine) (hdf:d.params.defaults=[]) (hr:Room k callerA)
  (F:∀(w:World) (mg:Str->Option Value) (fa:Addr) (h:Heap) (K:Frag),K.In h->h.Ns mainGlobals mg->seenK A K=good l.prog A->mg d.name=some (.ref fa)->
   ∃fd:FuncData,(∀(s:Shared) (u:Value),BindsTo s fd ⟨[u],[]⟩ [(x,u)])/\∀base:Heap,K.In base->base.Ns mainGlobals mg->FnOk l.prog w K mg base (CX w) k fa fd [x] (sp K))
  (hsp:∀(K:Frag) (H:Hp) (a:Addr) (ns:List Int),ns.length<=n->Only H->SqL K H a (ns.map V.int)->sp K [.ref a] H (fun v _=>v=.bl true) fun _ _ _=>False)
  (hCX:∀(w:World) (H:Hp) (s:Shared) (e:Value) (s':Shared),CX w [] H s (fun _ _ _=>False) e s'->False):
  WalkO q loose XP (fun _ h=> ∃K:Frag,K.In h/\seenK A K=good l.prog A) l.row.toRowW d [] (fun f vs=>PySem.call f vs):=by
 refine Att.attach_call hn hdf fun w s0 s1 mg mb fa o pm cd doc a vs ns G Y ho hd hcd hmg hobj hints hlen hg=>?_
 obtain⟨K,KX,S⟩:=Y;obtain⟨fd,hb,hF⟩:=F w mg fa _ K KX G.T.g S hmg;exact OR KX G.T.g G.T.b G.T.builtins G.T.nolimit hg hobj hints (Bi hlen hn2) hr hF hb (fun H hO hS=>hsp K H a ns hlen hO hS) fun H e s'=>hCX w H s1 e s'
def seen_ok {A:Ask} {p:Program} (w:World) (s:Shared) (e:seen A s.heap=good p A):∃K:Frag,K.In s.heap/\seenK A K=good p A:=⟨_,QG,e⟩
def seen_keeps {A:Ask} {p:Program} (w:World) (h h':Heap) (y:∃K:Frag,K.In h/\seenK A K=good p A) (k:∀b o,h.get? b=some o->h'.get? b=some o):∃K:Frag,K.In h'/\seenK A K=good p A:=
 let ⟨K,a,b⟩:=y
 ⟨K,a.keeps k,b⟩
end L4
namespace L3
open PySem PySem.Spec PyProof.Rows L2
section
variable {X:Cx} {κ:Kx} {E:XK} {a b e o tg:Expr} {pos np apos:Pos} {i:Nat}
def zb (i:Nat) {x:Str} {pos:Pos} (hN:X.N[i]? =some x:=by rfl) (hv:Vis X.env.scope x:=by first|exact Or.inl rfl|exact Or.inr (Or.inl rfl)|exact Or.inr (Or.inr rfl)) (hd:(x==("__debug__" :Str))=false:=by decide)
 (hcd:(x==("__classdict__" :Str))=false:=by decide):PE X (.Name x pos) (zj κ E (pV i)):=rp_v (pv i hN hv hd hcd)
def ze {i j pos}:PE X (.Constant (.int i) j pos) (zj κ E (kJ i)):=za ER
def FL {da db:P3} (ha:PE X a (zj κ E da)) (hb:PE X b (zj κ E db)) (hK:X.K=κ.K:=by rfl) (hm:Gw b:=by exact fun _ _=>rfl):PE X (.Subscript a b pos) (zh κ E (eOp zk da db)):=r_ix KA (K9 hK) hm ha hb
def zw {da db:P3} (ha:PE X a (zj κ E da)) (hb:PE X b (zj κ E db)) (hK:X.K=κ.K:=by rfl) (hm:Gw b:=by exact fun _ _=>rfl):PE X (.Subscript a b pos) (zj κ E (pE (eOp zk da db))):=za (r_ix KA (K9 hK) hm ha hb)
def zL (i:Nat) {x:Str} {pos':Pos} {d:E3} (hN:X.N.Nodup) (he:PE X e (zh κ E d)) (hi:X.N[i]? =some x:=by rfl) (hx:qH X.env.scope x:=by exact Or.inl rfl) (hs:swapsWith e (some (.Name x pos')) pos.line X.env=pure false:=by rfl)
 (hf:X.fn x=true\/X.env.scope.names.lookup x=some .local:=by first|exact .inl rfl|exact .inr rfl|assumption):PS X (.Assign [.Name x pos'] e pos) (zp κ E (sSet i d)):=PM hN hi hx he hs hf
def yB (i:Nat) {x:Str} {pos:Pos} (hN:X.N.Nodup) (hi:X.N[i]? =some x:=by rfl) (hx:qH X.env.scope x:=by exact Or.inl rfl) (hf:X.fn x=true\/X.env.scope.names.lookup x=some .local:=by first|exact .inl rfl|exact .inr rfl|assumption):PG X (.Name x pos) (yx κ (gN i)):=HJ (Hs hN hi hx hf)
def z9 {x:Str} {pos:Pos} (i:Nat) (N:List Str) (nd:N.Nodup:=by decide+kernel) (eN:X.N=N:=by rfl) (hi:N[i]? =some x:=by rfl) (hx:qH X.env.scope x:=by exact Or.inl rfl) (hl:X.env.scope.names.lookup x=some .local:=by rfl):PG X (.Name x pos) (yx κ (gN i)):=HJ (pgc i N nd eN hi hx hl)
def qs {iter:Expr} {body:List Stmt} {it:I3} {g:G3} {b:D3} (hi:PI X tg iter (yg κ E it)) (hg:PG X tg (yx κ g)) (hb:yj X body (zp κ E b)) (hp:PassesOwn (model X.prog X.w) X.A X.env X.xe:=by exact PassesOwn.leaving) (hc:X.calm=true:=by rfl)
 (hs:∀x,foldedSetIterable iter X.env x=pure x:=by intro _;rfl):PS X (.For tg iter body [] pos) (zp κ E (zt it g b)):=PV hp hc hi hg hb hs
def qI {l:Expr} {d:P3} (hl:PE X l (zj κ E d)) (hK:X.K=κ.K:=by rfl):PI X tg l (yg κ E (iL d)):=PY hK hl
def zu {N P:List Str} {sc:Scope} (k1:sc.kind=.function:=by rfl) (k2:sc.isCoroutine=false:=by rfl) (k3:sc.isGenerator=false:=by rfl) (k4:N.Nodup:=by decide+kernel) (k5:N.take P.length=P:=by rfl)
 (k6:∀x∈P,sc.names.lookup x=some .local\/sc.names.lookup x=some .cell:=by decide+kernel) (k7:∀y∈sc.names,y.2≠ .free:=by decide+kernel):FnScope N P sc:=⟨k1,k2,k3,k4,k5,k6,k7⟩
def QL {fl c:Str} {C:Addr} {d:P3} (cl:Cls X.K C) (na:NoAttr X.K C fl) (he:PE X e (zj κ E d)) (hC:κ.cl c=some C:=by rfl) (hb:attributeBase e fl X.env (eval e X.env)=eval e X.env:=by rfl):PE X (.Attribute e fl pos) (zh κ E (eFld [c] fl d)):=Ld (Flds.cons hC cl na Flds.nil) he hb
def L0 {fl c:Str} {C:Addr} {d:P3} (cl:Cls X.K C) (na:NoAttr X.K C fl) (he:PE X e (zj κ E d)) (hC:κ.cl c=some C:=by rfl) (hb:attributeBase e fl X.env (eval e X.env)=eval e X.env:=by rfl):PE X (.Attribute e fl pos) (zj κ E (pE (eFld [c] fl d))):=za (Ld (Flds.cons hC cl na Flds.nil) he hb)
def zD {x:Str} {st:Stmt} {es:List Expr} {f:F3} {t:A3} {k k0:Nat} {fa:Addr} {fd:FuncData} {ps:List Str} {n:Nat} (hf:zn f n) (Fk:FnOk X.prog X.w X.K X.mg X.base (XT X.prog X.w) k fa fd ps (zm κ n f)) (hr:Room k0 X.A) (d:Dfn X.K X.mg x st ps fa fd) (ha:PA X (e::es) (zB κ E t)) (hx:qC (XT X.prog X.w) X E:=by exact HE) (hk:k<=k0:=by decide) (hg:Gl X x:=by rfl)
 (hdb:(x==("__debug__" :Str))=false:=by decide) (he:SE X e es:=by rfl) (hpl:BA X pos es:=by rfl):
 PE X (.Call (.Name x np) (e::es) [] pos) (zh κ E (eCall f t)):=HK hf Fk (hr.mono hk) hg d.g d.F.kp d.b hx ha hdb he hpl
def L1 {C fa:Addr} {c m:Str} {es:List Expr} {f:F3} {dp:P3} {t:A3} {k k0:Nat} {fd:FuncData} {ps:List Str} {n:Nat} {pl:Sem Bool} (hf:zn f n) (he:PE X o (zj κ E dp)) (cl:Cls X.K C) (hm:Meth X.K C m fa) (Fk:FnOk X.prog X.w X.K X.mg X.base (XT X.prog X.w) k fa fd ps (zm κ n f)) (hr:Room k0 X.A) (hb:Binds X.K fd ps [])
 (ha:PA X (e::es) (zB κ E t)) (hx:qC (XT X.prog X.w) X E:=by exact HE) (hC:κ.cl c=some C:=by rfl) (hk:k<=k0:=by decide) (hst:SE X e es:=by rfl) (hpl:BA X pos es:=by rfl)
 (ht:eval (.Call (.Attribute o m apos) (e::es) [] pos) X.env=(do
  let ov <-eval o X.env
  standAt apos.atName
  let (f,first) <-holding [ov] (getMethod ov m pl)
  callWith pos f first (backTo pos (starEach (e::es) X.env)) (backToKw pos (keywordEach [] X.env))):=by rfl):
 PE X (.Call (.Attribute o m apos) (e::es) [] pos) (zh κ E (CJ c m f dp t)):=Qv hC hf he cl hm Fk (hr.mono hk) hb hx ha hst hpl ht
def ye {x:Str} {es:List Expr} {t:A3} {id:String} {r:List V->Hp->VK->Prop} {f:FB} (hs:ql κ r f) (hc:yy X (.builtin id) r) (hm:X.mg x=none) (hv:bootBuiltins x=some (.builtin id)) (ha:PA X (e::es) (zB κ E t)) (hg:Gl X x:=by rfl) (hn:x≠"__name__" :=by decide) (hdb:(x==("__debug__" :Str))=false:=by decide)
 (he:SE X e es:=by rfl) (hpl:BA X pos es:=by rfl):
 PE X (.Call (.Name x np) (e::es) [] pos) (zh κ E (eB f t)):=r_b hs hc hg hm hv ha hn hdb he hpl
end
def spL (K:FG):Sp:=fun vs H Q _=> ∃(a:Addr) (ns:List Int),vs=[.ref a]/\ns.length<=63/\SqL K H a (ns.map V.int)/\Only H/\∀H',Q (.bl true) H'
def spL_of {κ:Kx} {f:F3} (h:∀ns:List Int,ns.length<=63->∃h',f [.scr ns] []=.ok (.v (.bl true)) h') {vs:List V} {H:Hp} {Q:VK} {E:XK} (q:spL κ.K vs H Q E):zm κ 1 f vs H Q E:=by
 obtain⟨a,ns,rfl,hn,hS,hO,hQ⟩:=q;obtain⟨h',e⟩:=h ns hn
 refine⟨fun _=>False,[],[.scr ns],[],rfl,⟨rfl,fun i j a h=>by simp at h,fun a h=>h.elim,fun a h=>h.elim,fun i a h=>by simp at h,fun i c h=>by simp at h⟩,.cons ?_ .nil,?_⟩
 .rcases hS with hS|hS
  .rcases hS with hS|⟨o,hS⟩
   .rcases hO a with z|⟨o,xs,z⟩
    .rw[hS]at z;cases z
    .rw[hS]at z;cases z
   .exact .scr hS (by simp) fun z=>z
  .exact .scrK hS
 .rw[e]
  intro β' v H' ex p;obtain⟨_,r⟩:=p;cases r;exact hQ H'
def noX {P:Program} {w:World} {H:Hp} {s:Shared} {e:Value} {s':Shared} (h:XT P w [] H s (fun _ _ _=>False) e s'):False:=by
 obtain⟨_,_,_,_,_,_,_,_,_,_,_,_,_,_,_,_,q⟩:=h;exact q
end L3
namespace L3
open PySem L2
def BE {a b:D3} {s s1:S3} {h h1:H3} (e:a s h=.nx s1 h1):sSeq a b s h=b s1 h1:=by unfold sSeq;rw[e]
def QM {ok:H3->Prop} {g:G3} {b:D3} {h:H3} {Q:O3->Prop} (I:Nat->S3->Prop) {xs:List V3} {s:S3} (hok:ok h) (h0:I 0 s)
  (step:∀(i:Nat) x s,xs[i]? =some x->I i s->∃s1,g x s=some s1/\((∃s2,(b s1 h=.nx s2 h\/b s1 h=.ct s2 h)/\I (i+1) s2)\/(∃r h2,b s1 h=.rt r h2/\Q (.rt r h2))\/∃s2,b s1 h=.bk s2 h/\Q (.nx s2 h)))
  (done:∀s,I xs.length s->Q (.nx s h)):Q (zJ ok g b xs s h):=by
 have gen:∀(n i:Nat) (s:S3),n=xs.length-i->i<=xs.length->I i s->Q (zJ ok g b (xs.drop i) s h):=by
  intro n
  induction n with
  |zero=>
   intro i s hn hi hI;have:i=xs.length:=by lia
   subst this;rw[Cf];unfold zJ;rw[Aa hok];exact done s hI
  |succ n ih=>
   intro i s hn hi hI;have hlt:i<xs.length:=by lia
   rw[E9 hlt];unfold zJ;rw[Aa hok];obtain⟨s1,hg,hs⟩:=step i xs[i] s (zH hlt) hI;simp only[hg]
   rcases hs with ⟨s2,hb,hI2⟩|⟨r,h2,hb,hq⟩|⟨s2,hb,hq⟩
   .rcases hb with hb|hb<;>simp only[hb]<;>exact ih (i+1) s2 (by lia) hlt hI2
   .simp only[hb];exact hq
   .simp only[hb];exact hq
 exact gen _ 0 s rfl (Bw _) h0
def Ih {ok:H3->Prop} {g:G3} {b:D3} {h:H3} (I:Nat->S3->Prop) {xs:List V3} {s:S3} (hok:ok h) (h0:I 0 s)
  (step:∀(i:Nat) x s,xs[i]? =some x->I i s->∃s1 s2,g x s=some s1/\b s1 h=.nx s2 h/\I (i+1) s2):∃s',zJ ok g b xs s h=.nx s' h/\I xs.length s':=by
 refine QM (Q:=fun o=> ∃s',o=.nx s' h/\I xs.length s') I hok h0 (fun i x s hx hI=>?_) fun s hI=>⟨s,rfl,hI⟩
 obtain⟨s1,s2,h1,h2,h3⟩:=step i x s hx hI;exact⟨s1,h1,.inl ⟨s2,.inl h2,h3⟩⟩
def G7 {α:Type} {ok:H3->Prop} {g:G3} {e:E3} {h:H3} (I:S3->Prop) (enc:α->V3) (f:α->V3) (hok:ok h) {l:List α} (hl:l.length<=sizeLine)
  (step:∀a s,a∈l->I s->∃s1 r,g (enc a) s=some s1/\I s1/\e s1 h=.ok r h/\r.fz=some (f a)) {s:S3} (h0:I s):
  yF ok g tTru e (l.map enc) [] s h=.ok (l.map f) h:=by
 have gen:∀(l:List α) (acc:List V3) (s:S3),acc.length+l.length<=sizeLine->(∀a s,a∈l->I s->∃s1 r,g (enc a) s=some s1/\I s1/\e s1 h=.ok r h/\r.fz=some (f a))->I s->yF ok g tTru e (l.map enc) acc s h=.ok (acc++l.map f) h:=by
  intro l
  induction l with
  |nil=>intro acc s _ _ _;rw[A4];unfold yF;rw[Aa hok];simp
  |cons x r ih=>
   intro acc s hl st hI;rw[Al];unfold yF;rw[Aa hok];obtain⟨s1,v,h1,h2,h5,h6⟩:=st x s Aj hI;rw[Az]at hl;simp only[h1,tTru,h5,h6,Aa (show acc.length<sizeLine by lia)]
   rw[ih (acc++[f x]) s1 (by rw[Av,Dv];lia) (fun x s hx=>st x s (Am _ hx)) h2]
   simp
 have:=gen l [] s (by simpa using hl) step h0
 simpa using this
def L5 {α:Type} {ok:H3->Prop} {g:G3} {c:T3} {e:E3} {h:H3} (I:S3->Prop) (enc:α->V3) (p:α->Bool) (f:α->V3) (hok:ok h) {l:List α} (hl:l.length<=sizeLine)
  (step:∀a s,a∈l->I s->∃s1,g (enc a) s=some s1/\I s1/\c s1 h=.ok (p a) h/\(p a=true->∃r,e s1 h=.ok r h/\r.fz=some (f a))) {s:S3} (h0:I s):
  yF ok g c e (l.map enc) [] s h=.ok ((l.filter p).map f) h:=by
 have gen:∀(l:List α) (acc:List V3) (s:S3),acc.length+l.length<=sizeLine->(∀a s,a∈l->I s->∃s1,g (enc a) s=some s1/\I s1/\c s1 h=.ok (p a) h/\(p a=true->∃r,e s1 h=.ok r h/\r.fz=some (f a)))->I s->yF ok g c e (l.map enc) acc s h=.ok (acc++(l.filter p).map f) h:=by
  intro l
  induction l with
  |nil=>intro acc s _ _ _;rw[A4];unfold yF;rw[Aa hok];simp
  |cons x r ih=>
   intro acc s hl st hI;rw[Al];unfold yF;rw[Aa hok];obtain⟨s1,h1,h2,h3,h4⟩:=st x s Aj hI;rw[Az]at hl;simp only[h1,h3];cases q:p x with
   |false=>
    simp only[List.filter_cons,q];exact ih acc s1 (by lia) (fun x s hx=>st x s (Am _ hx)) h2
   |true=>
    obtain⟨v,h5,h6⟩:=h4 q;simp only[h5,h6,List.filter_cons,q,Aa (show acc.length<sizeLine by lia)]
    rw[ih (acc++[f x]) s1 (by rw[Av,Dv];lia) (fun x s hx=>st x s (Am _ hx)) h2]
    simp
 have:=gen l [] s (by simpa using hl) step h0
 simpa using this
def L6 (l:List Int):zF int3 (l.map .int)=some l:=by
 have:=EZ (f:=int3) (g:=V3.int) (k:=id) (fun _=>rfl) l
 simpa using this
def QN (l:List Bool):zF bl3 (l.map .bl)=some l:=by
 have:=EZ (f:=bl3) (g:=V3.bl) (k:=id) (fun _=>rfl) l
 simpa using this
theorem L7:∀{ns:List Int} {a:Int},0<=a->(∀x∈ns,0<=x)->a+ns.sum<2 ^ 63->AX a ns=true
 | [],_,_,_,_=>rfl
 |x::r,a,h0,hp,hs=>by
  have hx:=hp x Aj;rw[List.sum_cons]at hs;have hr:0<=r.sum:=by
   have:∀l:List Int,(∀x∈l,0<=x)->0<=l.sum:=by
    intro l;induction l with
    |nil=>intro _;exact Cq _
    |cons y t ih=>intro h;rw[List.sum_cons];have:=h y Aj;have:=ih fun z hz=>h z (Am _ hz);lia
   exact this r fun z hz=>hp z (Am _ hz)
  unfold AX;rw[Ar,Ar]
  refine⟨⟨Bk ⟨by lia,by lia⟩,Bk ⟨by lia,by lia⟩⟩,L7 (by lia) (fun z hz=>hp z (Am _ hz)) (by lia)⟩
def at0 {α:Type} {x:α} {r:List α}:atI (x::r) (0:Int)=some x:=AA (j:=0) rfl
def at1 {α:Type} {x y:α} {r:List α}:atI (x::y::r) (1:Int)=some y:=AA (j:=1) rfl
def at2 {α:Type} {x y z:α} {r:List α}:atI (x::y::z::r) (2:Int)=some z:=AA (j:=2) rfl
def at3 {α:Type} {x y z u:α} {r:List α}:atI (x::y::z::u::r) (3:Int)=some u:=AA (j:=3) rfl
def at4 {α:Type} {x y z u v:α} {r:List α}:atI (x::y::z::u::v::r) (4:Int)=some v:=AA (j:=4) rfl
def atm1 {α:Type} {l:List α} {x:α}:atI (l++[x]) (-1:Int)=some x:=O9 l x
def Ii {i j:Int} (h: -(2 ^ 64)<i/\i<2 ^ 64):CMul i j:= .inl h
def L8 {i j:Int} (h: -(2 ^ 64)<j/\j<2 ^ 64):CMul i j:= .inr h
def L9 {h:H3} {n:Nat} {x y:V3} {a b:V} (hx:z7 h x=.f a) (hy:z7 h y=.f b):zA h n x y=some (eqV a b):=by
 cases n<;>simp only[zA,hx,hy]
def DR {h:H3} {n:Nat} {i j:Int}:zA h n (.int i) (.int j)=some (decide (i=j)):=by
 rw[L9 (a:= .int i) (b:= .int j) rfl rfl];congr 1
def DS {h:H3} {n:Nat} {i j:Str}:zA h n (.str i) (.str j)=some (decide (i=j)):=by
 rw[L9 (a:= .str i) (b:= .str j) rfl rfl];congr 1
theorem LA {α:Type} [DecidableEq α] {f:V3->V3->Option Bool} {enc:α->V3} (he:∀a b,f (enc a) (enc b)=some (decide (a=b))):∀(l m:List α),l.length=m.length->yf f (l.map enc) (m.map enc)=some (decide (l=m))
 | [],[],_=>by simp[yf]
 | [],_::_,h=>by simp at h
 |_::_,[],h=>by simp at h
 |a::l,b::m,h=>by
  simp only[Al,yf,he a b,LA he l m (by simpa using h),B0,List.cons.injEq]
  rw[Co];simp
def QO {α:Type} [DecidableEq α] {h:H3} {n:Nat} {enc:α->V3} (he:∀a b,zA h n (enc a) (enc b)=some (decide (a=b))) (l m:List α):zA h (n+1) (.lst (l.map enc)) (.lst (m.map enc))=some (decide (l=m)):=by
 simp only[zA,z7,Ah]
 by_cases hl:l.length=m.length
 .rw[Aa hl,LA he l m hl]
 .rw[Ac hl]
  congr 1
  exact (Be fun z=>hl (by rw[z])).symm
def nx_ite {c:Prop} [Decidable c] {a b:S3} {h:H3}:(if c then O3.nx a h else O3.nx b h)=O3.nx (if c then a else b) h:=by split<;>rfl
def rt_ite {c:Prop} [Decidable c] {a b:Vl} {h:H3}:(if c then O3.rt a h else O3.rt b h)=O3.rt (if c then a else b) h:=by split<;>rfl
def ok_ite {α:Type} {c:Prop} [Decidable c] {a b:α} {h:H3}:(if c then Res.ok a h else Res.ok b h)=Res.ok (if c then a else b) h:=by split<;>rfl
def cons_ite {α:Type} {c:Prop} [Decidable c] {a b:α} {x y:List α}:(if c then a::x else b::y)=(if c then a else b)::(if c then x else y):=by split<;>rfl
def some_ite {α:Type} {c:Prop} [Decidable c] {a b:α}:(if c then some a else some b)=some (if c then a else b):=by split<;>rfl
def v_ite {c:Prop} [Decidable c] {a b:V3}:(if c then Vl.v a else Vl.v b)=Vl.v (if c then a else b):=by split<;>rfl
def int_ite {c:Prop} [Decidable c] {a b:Int}:(if c then V3.int a else V3.int b)=V3.int (if c then a else b):=by split<;>rfl
def bl_ite {c:Prop} [Decidable c] {a b:Bool}:(if c then V3.bl a else V3.bl b)=V3.bl (if c then a else b):=by split<;>rfl
def oEq_int {s:S3} {h:H3} {i j:Int}:yM s h (.x (.int i)) (.x (.int j))=some (.v (.bl (decide (i=j)))):=by
 unfold yM qf;simp only[rdm,rdl,DR,Bh]
def oNe_int {s:S3} {h:H3} {i j:Int}:yh s h (.x (.int i)) (.x (.int j))=some (.v (.bl (!decide (i=j)))):=by
 unfold yh qf;simp only[rdm,rdl,DR,Bh]
def oAdd_int {s:S3} {h:H3} {i j:Int}:zl s h (.x (.int i)) (.x (.int j))=some (.v (.int (i+j))):=rfl
def oAddI_int {s:S3} {h:H3} {i j:Int}:BQ s h (.x (.int i)) (.x (.int j))=some (.v (.int (i+j))):=rfl
def oSub_int {s:S3} {h:H3} {i j:Int}:ya s h (.x (.int i)) (.x (.int j))=some (.v (.int (i-j))):=rfl
def oMul_int {s:S3} {h:H3} {i j:Int} (c:CMul i j):oMul s h (.x (.int i)) (.x (.int j))=some (.v (.int (i*j))):=by
 unfold oMul qe HL oI;simp only[Aa c,Bh]
def oDiv_int {s:S3} {h:H3} {i j:Int} (a:0<j) (b:j<1073741824):oDiv s h (.x (.int i)) (.x (.int j))=some (.v (.int (i / j))):=by
 unfold oDiv oI;simp only[Aa (show CDiv i j from ⟨a,b⟩),Bh]
def oMod_int {s:S3} {h:H3} {i j:Int} (c:0<j):zK s h (.x (.int i)) (.x (.int j))=some (.v (.int (i%j))):=by
 unfold zK oI;simp only[Aa c,Bh]
def oShr_int {s:S3} {h:H3} {i j:Int} (c:0<=j):oShr s h (.x (.int i)) (.x (.int j))=some (.v (.int (i / 2 ^ j.toNat))):=by
 unfold oShr oI;simp only[Aa c,Bh]
def oPow_int {s:S3} {h:H3} {i j:Int} (c:CPow i j):oPow s h (.x (.int i)) (.x (.int j))=some (.v (.int (i ^ j.toNat))):=by
 unfold oPow oI;simp only[Aa c,Bh]
def oAndI_int {s:S3} {h:H3} {i j:Int}:Qd s h (.x (.int i)) (.x (.int j))=some (.v (.int (Builtin.bitAnd i j))):=rfl
def oLt_int {s:S3} {h:H3} {i j:Int}:oLt s h (.x (.int i)) (.x (.int j))=some (.v (.bl (decide (i<j)))):=rfl
def oLe_int {s:S3} {h:H3} {i j:Int}:qd s h (.x (.int i)) (.x (.int j))=some (.v (.bl (decide (i<=j)))):=rfl
def oGt_int {s:S3} {h:H3} {i j:Int}:oGt s h (.x (.int i)) (.x (.int j))=some (.v (.bl (decide (j<i)))):=rfl
def oGe_int {s:S3} {h:H3} {i j:Int}:oGe s h (.x (.int i)) (.x (.int j))=some (.v (.bl (decide (j<=i)))):=rfl
def oIx_tup {s:S3} {h:H3} {xs:List V3} {i:Int}:zk s h (.x (.tup xs)) (.x (.int i))=(atI xs i).map .v:=by
 unfold zk qe oIxT oIxL oIxS;simp only[rdl];cases atI xs i<;>rfl
def oIx_lst {s:S3} {h:H3} {xs:List V3} {i:Int}:zk s h (.x (.lst xs)) (.x (.int i))=(atI xs i).map .v:=by
 unfold zk qe oIxT oIxL oIxS;simp only[rdl];cases atI xs i<;>rfl
def oIx_scr {s:S3} {h:H3} {ns:List Int} {i:Int}:zk s h (.x (.scr ns)) (.x (.int i))=(atI (ns.map .int) i).map .v:=by
 unfold zk qe oIxT oIxL oIxS;simp only[rdl];cases atI (ns.map V3.int) i<;>rfl
def sMt_ap {op:FM} {p:P3} {a:A3} {s:S3} {h:H3}:yW op p a s h=mtO op p a (fun s h _=>.nx s h) s h:=rfl
def mAppend_ok {xs:List V3} {y:V3} (h:xs.length<sizeLine):yZ xs [y]=some (xs++[y],.non):=by unfold yZ;simp only[Aa h]
def yb:1000000<=sizeLine:=by decide
def sz0:(0<=sizeLine)=True:=by simp
def sz1:(1<=sizeLine)=True:=eq_true (by have:=yb;lia)
def sz2:(2<=sizeLine)=True:=eq_true (by have:=yb;lia)
def sz3:(3<=sizeLine)=True:=eq_true (by have:=yb;lia)
def sz4:(4<=sizeLine)=True:=eq_true (by have:=yb;lia)
def sz5:(5<=sizeLine)=True:=eq_true (by have:=yb;lia)
def gb (g:G3) (b:D3) (x:V3) (s:S3) (h:H3):O3:=match g x s with
 |some s1=>b s1 h
 |none=>.no
def y9 {Q:Res Vl->Prop} {k n:Nat} {b:D3} {vs:List V3} {h:H3} (hl:vs.length=k) (q:Q ((b (start3 n vs) h).res)):Q (fun3 k n b vs h):=by
 unfold fun3;rw[Aa hl];exact q
def QP {α:Type} {p:P3} {g:G3} {b:D3} {s:S3} {h:H3} {x:V3} {ok:H3->Prop} {enc:α->V3} {l:List α} (ep:p s h=.ok (.x x) h) (hw:yn h x=some (l.map enc,ok))
  (I:Nat->S3->Prop) (h0:I 0 s) (step:∀(i:Nat) a s,l[i]? =some a->I i s->∃s2,gb g b (enc a) s h=.nx s2 h/\I (i+1) s2):∃s',zt (iL p) g b s h=.nx s' h/\I l.length s':=by
 have hf:zt (iL p) g b s h=zJ ok g b (l.map enc) s h:=by
  unfold zt iL;simp only[ep,Res.bind,Res.bindS,hw]
 rw[hf];have:=Ih (ok:=ok) (g:=g) (b:=b) (h:=h) I (xs:=l.map enc) (s:=s) (AW hw).1 h0 fun i x s hx hI=>by
  rw[A9]at hx;obtain⟨a,ha,rfl⟩:=Ei.1 hx;obtain⟨s2,e,hI2⟩:=step i a s ha hI;unfold gb at e;cases q:g (enc a) s with
  |none=>rw[q]at e;cases e
  |some s1=>rw[q]at e;exact⟨s1,s2,rfl,e,hI2⟩
 rwa [Ah]at this
def QQ {Q:O3->Prop} {α:Type} {p:P3} {g:G3} {b r:D3} {s:S3} {h:H3} {x:V3} {ok:H3->Prop} {enc:α->V3} {l:List α} (ep:p s h=.ok (.x x) h) (hw:yn h x=some (l.map enc,ok))
  (I:Nat->S3->Prop) (h0:I 0 s) (step:∀(i:Nat) a s,l[i]? =some a->I i s->∃s2,gb g b (enc a) s h=.nx s2 h/\I (i+1) s2) (k:∀s',I l.length s'->Q (r s' h)):Q (sSeq (zt (iL p) g b) r s h):=by
 obtain⟨s',e,hI⟩:=QP ep hw I h0 step;rw[BE e];exact k s' hI
def QR {a:A3} {g:G3} {b:D3} {s:S3} {h:H3} {j:Int} (ea:a s h=.ok [.x (.int j)] h) (hj: -(2 ^ 62)<=j/\j<2 ^ 62)
  (I:Nat->S3->Prop) (h0:I 0 s) (step:∀(i:Nat) s,i<j.toNat->I i s->∃s2,gb g b (.int (i:Int)) s h=.nx s2 h/\I (i+1) s2):∃s',zt (qu a) g b s h=.nx s' h/\I j.toNat s':=by
 have hf:zt (qu a) g b s h=zJ (fun _=>True) g b ((List.range j.toNat).map fun k=>.int (0+((k:Nat):Int))) s h:=by
  unfold zt qu;simp only[ea,Res.bind,Res.bindS,Aa hj]
 rw[hf];have:=Ih (ok:=fun _=>True) (g:=g) (b:=b) (h:=h) I (xs:=(List.range j.toNat).map fun k=>.int (0+((k:Nat):Int))) (s:=s) trivial h0 fun i x s hx hI=>by
  have hi:i<j.toNat:=by
   have:=An.1 hx;simpa using this.1
  rw[A9,List.getElem?_range hi]at hx
  cases hx;obtain⟨s2,e,hI2⟩:=step i s hi hI;simp only[Int.zero_add];unfold gb at e;cases q:g (.int i) s with
  |none=>rw[q]at e;cases e
  |some s1=>rw[q]at e;exact⟨s1,s2,rfl,e,hI2⟩
 rwa [Ah,B9]at this
def QS {Q:O3->Prop} {a:A3} {g:G3} {b r:D3} {s:S3} {h:H3} {j:Int} (ea:a s h=.ok [.x (.int j)] h) (hj: -(2 ^ 62)<=j/\j<2 ^ 62)
  (I:Nat->S3->Prop) (h0:I 0 s) (step:∀(i:Nat) s,i<j.toNat->I i s->∃s2,gb g b (.int (i:Int)) s h=.nx s2 h/\I (i+1) s2) (k:∀s',I j.toNat s'->Q (r s' h)):Q (sSeq (zt (qu a) g b) r s h):=by
 obtain⟨s',e,hI⟩:=QR ea hj I h0 step;rw[BE e];exact k s' hI
def zG {Q:Res Vl->Prop} {a b:D3} {s s1:S3} {h h1:H3} (e:a s h=.nx s1 h1) (q:Q ((b s1 h1).res)):Q ((sSeq a b s h).res):=by rw[BE e];exact q
def QT {Q:Res Vl->Prop} {a:A3} {g:G3} {b r:D3} {s:S3} {h:H3} {j:Int} (ea:a s h=.ok [.x (.int j)] h) (hj: -(2 ^ 62)<=j/\j<2 ^ 62)
  (I:Nat->S3->Prop) (h0:I 0 s) (step:∀(i:Nat) s,i<j.toNat->I i s->∃s2,gb g b (.int (i:Int)) s h=.nx s2 h/\I (i+1) s2) (k:∀s',I j.toNat s'->Q ((r s' h).res)):Q ((sSeq (zt (qu a) g b) r s h).res):=
 QS (Q:=fun o=>Q o.res) ea hj I h0 step k
def DT {Q:Res Vl->Prop} {α:Type} {p:P3} {g:G3} {b r:D3} {s:S3} {h:H3} {x:V3} {ok:H3->Prop} {enc:α->V3} {l:List α} (ep:p s h=.ok (.x x) h) (hw:yn h x=some (l.map enc,ok))
  (I:Nat->S3->Prop) (h0:I 0 s) (step:∀(i:Nat) a s,l[i]? =some a->I i s->∃s2,gb g b (enc a) s h=.nx s2 h/\I (i+1) s2) (k:∀s',I l.length s'->Q ((r s' h).res)):Q ((sSeq (zt (iL p) g b) r s h).res):=
 QQ (Q:=fun o=>Q o.res) ep hw I h0 step k
end L3
namespace L3
open PySem PySem.Spec PyProof.Rows L2
section
variable {X:Cx} {κ:Kx} {E:XK} {F F':Fr} {σ σ':L2.St} {H H1 H':Hp} {Q:VK} {p:Addr} {e a b c o:Expr} {es:List Expr} {pos apos np cpos:Pos} {i:Nat} {D:Ends}
def eFmt (p:P3):E3:=fun s h=>(p s h).bind fun f h1=>match f with
 |.x (.int i)=>if i.natAbs.log2<1920 then .ok (.v (.str (Str.ofString (toString i)))) h1 else .no
 |.x (.str y)=>if y.length<=100000 then .ok (.v (.str y)) h1 else .no
 |_=>.no
def QU {d:P3} (ha:PE X a (zj κ E d)):PE X (.FormattedValue a (-1) none pos) (zh κ E (eFmt d)):=ym (Lm ha) fun σ H Q ⟨F,rel,o⟩=>
 (zO (K:=kP κ) zE rel o).mono fun v H1 ⟨β1,h1,f,e1,⟨r1,rf⟩,o1⟩=>by
  match f,rf,o1 with
  |.x (.int i),rf,o1=>
   cases (show Rep κ β1 F.O H1 (.int i) v from rf)
   by_cases hc:i.natAbs.log2<1920
   .simp only[Aa hc]at o1;exact .inl ⟨i,rfl,hc,o1 β1 _ H1 Ext.refl ⟨r1,.str _⟩⟩
   .simp only[Ac hc]at o1;exact o1.elim
  |.x (.str y),rf,o1=>
   cases (show Rep κ β1 F.O H1 (.str y) v from rf)
   by_cases hc:y.length<=100000
   .simp only[Aa hc]at o1;exact .inr ⟨y,rfl,hc,o1 β1 _ H1 Ext.refl ⟨r1,.str _⟩⟩
   .simp only[Ac hc]at o1;exact o1.elim
def eF3 (a b c:P3):E3:=fun s h=>(a s h).bind fun x h1=>match x with
 |.x (.str i)=>if i.length<=10000 then (b s h1).bind fun y h2=>match y with
  |.x (.str j)=>if j.length<=10000 then (c s h2).bind fun z h3=>match z with
   |.x (.str k)=>if k.length<=10000 then .ok (.v (.str (i++j++k))) h3 else .no
   |_=>.no
   else .no
  |_=>.no
  else .no
 |_=>.no
def r_f3 {da db dc:P3} (ha:PE X a (zj κ E da)) (hb:PE X b (zj κ E db)) (hc:PE X c (zj κ E dc)):PE X (.JoinedStr [a,b,c] pos) (zh κ E (eF3 da db dc)):=ym (Q7 ha hb hc) fun σ H Q ⟨F,rel,o⟩=>
 (zO (K:=kP κ) zE rel o).mono fun v H1 ⟨β1,h1,f,e1,⟨r1,rf⟩,o1⟩=>by
  match f,rf,o1 with
  |.x (.str i),rf,o1=>
   cases (show Rep κ β1 F.O H1 (.str i) v from rf)
   by_cases hi:i.length<=10000
   .simp only[Aa hi]at o1
    refine⟨i,rfl,hi,(zO (F:=F.to β1 h1) (K:=kP κ) zE r1 o1).mono fun v2 H2 ⟨β2,h2,f2,e2,⟨r2,rf2⟩,o2⟩=>?_⟩
    match f2,rf2,o2 with
    |.x (.str j),rf2,o2=>
     cases (show Rep κ β2 F.O H2 (.str j) v2 from rf2)
     by_cases hj:j.length<=10000
     .simp only[Aa hj]at o2
      refine⟨j,rfl,hj,(zO (F:=F.to β2 h2) (K:=kP κ) zE r2 o2).mono fun v3 H3 ⟨β3,h3,f3,e3,⟨r3,rf3⟩,o3⟩=>?_⟩
      match f3,rf3,o3 with
      |.x (.str k),rf3,o3=>
       cases (show Rep κ β3 F.O H3 (.str k) v3 from rf3)
       by_cases hk:k.length<=10000
       .simp only[Aa hk]at o3
        exact⟨k,rfl,hk,o3 β3 _ H3 Ext.refl ⟨r3,.str _⟩⟩
       .simp only[Ac hk]at o3;exact o3.elim
     .simp only[Ac hj]at o2;exact o2.elim
   .simp only[Ac hi]at o1;exact o1.elim
def FN:FB:=fun _ _ fs=>match fs with
 | [.x (.int i)]=>if i.natAbs.log2<1920 then some (.v (.str (Str.ofString (toString i)))) else none
 | [.x (.str x)]=>some (.v (.str x))
 |_=>none
def LB:yy X (.type "str") (fun xs H Q=>(∃i:Int,xs=[.int i]/\i.natAbs.log2<1920/\Q (.str (toString i)) H)\/∃x,xs=[.str x]/\Q (.str x) H):=fun pins s σ H xs us Q I r h=>by
 rcases h with h|h
 .exact NU pins s σ H xs us Q I r h
 .exact Q6 pins s σ H xs us Q I r h
def LC:ql κ (fun xs H Q=>(∃i:Int,xs=[.int i]/\i.natAbs.log2<1920/\Q (.str (toString i)) H)\/∃x,xs=[.str x]/\Q (.str x) H) FN:=fun F σ H fs z vs Q rel r e k=>by
 unfold FN at e
 split at e
 .rename_i i
  obtain⟨hl,rfl⟩:=qr e;obtain⟨v,rfl,rv⟩:=p1 r;cases (show Rep κ F.β F.O H (.int i) v from rv)
  exact .inl ⟨i,rfl,hl,k _ _ Ext.refl ⟨rel,.str _⟩⟩
 .rename_i x
  cases e;obtain⟨v,rfl,rv⟩:=p1 r;cases (show Rep κ F.β F.O H (.str x) v from rv)
  exact .inr ⟨x,rfl,k _ _ Ext.refl ⟨rel,.str _⟩⟩
 .cases e
end
end L3
namespace L2
open PySem PySem.Spec PyProof.Rows
section
variable {X:Cx} {tg:Expr}
def QV (K:FG) (tl:TE):TI:=fun σ H R=>tl σ H fun x H1=>(∃a,x=.ref a/\(∃xs,SqL K H1 a xs)/\R (Itl K a) H1)\/∃a,x=.ref a/\(∃xs,SqT K H1 a xs)/\R (Itt K a) H1
def QW {l:Expr} {tl:TE} (hl:PE X l tl):PI X tg l (QV X.K tl):=by
 intro pins s σ H R I h
 refine thn (hl pins s σ H _ I h) fun v s1 ⟨x,H1,I1,r1,q1⟩=>?_
 rcases q1 with ⟨a,e,⟨xs,hq⟩,q⟩|⟨a,e,⟨xs,hq⟩,q⟩
 .subst e
  cases r1;obtain⟨its,rv,p,hz⟩:=I1.list hq
  refine Dn p.isList ?_
  refine⟨s1.heap.objs.size,[s1.heap.objs.size],_,_,H1,rfl,I1.kept (t':=s1.toks) fun b o e=>Ao _ e,JI a _,⟨_,A6 _ rfl,rfl,rfl⟩,fun b hb=>?_,q⟩
  have e:b=s1.heap.objs.size:=by simpa using hb
  subst e;exact I1.fpOk (Ag _) (I1.hok.fresh (Ag _))
 .subst e
  cases r1;obtain⟨its,rv,p,hz⟩:=I1.tuple hq
  refine wpAny_pyIter_tuple (show s1.heap.IsTuple a its.toArray from p) ?_
  refine⟨s1.heap.objs.size,[s1.heap.objs.size],_,_,H1,rfl,I1.kept (t':=s1.toks) fun b o e=>Ao _ e,N6 a _,⟨_,A6 _ rfl,rfl,rfl⟩,fun b hb=>?_,q⟩
  have e:b=s1.heap.objs.size:=by simpa using hb
  subst e;exact I1.fpOk (Ag _) (I1.hok.fresh (Ag _))
end
end L2
namespace L3
open PySem PySem.Spec PyProof.Rows L2
section
variable {X:Cx} {κ:Kx} {E:XK} {F F':Fr} {σ σ':L2.St} {H H1 H':Hp} {Q:VK}
def iLT (p:P3):I3:=fun s h=>(p s h).bind fun f h1=>match f with
 |.x (.tup xs)=>.ok ⟨[.tup xs],xs,fun _=>True⟩ h1
 |.x x=>match yn h1 x with
  |some (xs,ok)=>.ok ⟨[x],xs,ok⟩ h1
  |none=>.no
 |_=>.no
def QX {p:P3} {s:S3} {h h1:H3} {xs:List V3} (e:p s h=.ok (.x (.tup xs)) h1):iLT p s h=.ok ⟨[.tup xs],xs,fun _=>True⟩ h1:=by
 unfold iLT;simp only[e,Res.bind]
def QY {tg l:Expr} {d:P3} (hK:X.K=κ.K) (hl:PE X l (zj κ E d)):PI X tg l (yg κ E (iLT d)):=PIw (QW hl) fun σ H R ⟨F,rel,o⟩=>
 (zO (K:=kP κ) km_I rel o).mono fun v H1 ⟨β1,h1,f,e1,⟨r1,rf⟩,o1⟩=>by
  rw[hK]
  match f,rf,o1 with
  |.s _,rf,o1=>exact o1.elim
  |.x x,rf,o1=>
   by_cases ht:∃xs,x=.tup xs
   .obtain⟨xs,rfl⟩:=ht
    have rf:Rep κ β1 F.O H1 (.tup xs) v:=rf;have rf0:=rf;cases rf with
    |tup g1 g2 g3 g4=>
     refine .inr ⟨_,rfl,⟨_,.of g1⟩,o1 β1 _ H1 Ext.refl ⟨r1,[_],.cons rf0 .nil,fun F' σ' H' rel' r' hk i=>?_⟩⟩
     cases r' with
     |cons r'' _=>
      cases r'' with
      |tup k1 k2 k3 k4=>
       refine⟨fun hi=>⟨?_,fun y H' ⟨e,yl⟩=>?_⟩,fun hi=>⟨_,.of k1,by rw[<-k4.length];exact hi⟩⟩
       .obtain⟨y,hy,_⟩:=k4.get (i:=i) (zH hi)
        exact⟨_,y,.of k1,hy⟩
       .subst e
        obtain⟨x3,h1,h2⟩:=k4.get' (yl _ (.of k1));exact⟨x3,h1,Ext.refl,rel',h2⟩
   .cases q:yn h1 x with
    |none=>exact (show False by cases x<;>first|exact ht ⟨_,rfl⟩|(simp only[q]at o1;exact o1)).elim
    |some w=>
     obtain⟨xs,ok⟩:=w;have rf:Rep κ β1 F.O H1 x v:=rf;obtain⟨a,ys,ev,sq,rs⟩:=AD (F:=F.to β1 h1) q r1 rf (AW q).1;subst ev;have o2:Out κ E (kI κ) (F.to β1 h1) σ H1 R (.ok ⟨[x],xs,ok⟩ h1):=by cases x<;>first|exact absurd ⟨_,rfl⟩ ht|(simp only[q]at o1;exact o1)
     refine .inl ⟨a,rfl,⟨ys,sq⟩,o2 β1 _ H1 Ext.refl ⟨r1,[.ref a],.cons rf .nil,fun F' σ' H' rel' r' hk i=>?_⟩⟩
     cases r' with
     |cons r'' _=>
      obtain⟨a',ys',ev',sq',rs'⟩:=AD q rel' r'' hk;cases ev'
      refine⟨fun hi=>⟨?_,fun y H' ⟨e,yl⟩=>?_⟩,fun hi=>⟨ys',sq',by rw[<-rs'.length];exact hi⟩⟩
      .obtain⟨y,hy,_⟩:=rs'.get (i:=i) (zH hi)
       exact⟨ys',y,sq',hy⟩
      .subst e
       obtain⟨x3,h1,h2⟩:=rs'.get' (yl ys' sq');exact⟨x3,h1,Ext.refl,rel',h2⟩
end
section
variable {X:Cx} {κ:Kx} {E:XK} {F F1 F2 F':Fr} {σ σ':L2.St} {H H1 H2 H':Hp} {Q:VK} {p:Addr} {e a b o:Expr} {es:List Expr} {pos apos np cpos hp:Pos} {i:Nat} {D:Ends}
def BF (c:Str) (t:A3):D3:=fun s h=>(t s h).bindS fun fs h1=>if fs.length<=1000 then .ex ⟨c,none⟩ h1 else .no
def Ij {c x:Str} {C:Addr} {t:A3} (hk:κ.cl c=some C) (xc:XCl X.K X.mg x C) (hc:X.calm=true) (hg:Gl X x) (hr:HF X E) (ha:PA X (e::es) (zB κ E t)) (hs:SE X e es:=by rfl) (hpl:(backTo cpos (starEach es X.env)).any (·.1)=false:=by rfl)
  (hd:(x==("__debug__" :Str))=false:=by decide):PS X (.Raise (some (.Call (.Name x np) (e::es) [] cpos)) none pos) (zp κ E (BF c t)):=
 yV (Pm xc hc hg hr ha hs hpl hd) fun D σ H ⟨F,rel,ht,o⟩=>(bindS (K:=kA κ) rel ht o).mono fun vs H1 ⟨β1,h1,fs,e1,⟨r1,rf⟩,o1⟩=>by
  by_cases hl:fs.length<=1000
  .rw[Aa hl]at o1
   exact⟨by rw[<-rf.length];exact hl,o1 (F.to β1 h1) H1 (SExt.of0 ht e1) (r1.heap.sub fun a ha=>.inr (.inr ha)) C none hk rfl⟩
  .rw[Ac hl]at o1;exact o1.elim
abbrev Hd:=Str×Option Nat×D3
def noEx:O3->O3
 |.ex _ _=>.no
 |o=>o
def asN (i:Nat):O3->O3
 |.nx s h=>.nx (s.set i none) h
 |.bk s h=>.bk (s.set i none) h
 |.ct s h=>.ct (s.set i none) h
 |.rt r h=>.rt r h
 |_=>.no
def pick (mt:Str->Str->Option Bool) (x:X3) (s:S3) (h:H3):List Hd->O3
 | []=>.no
 | (B,n,k)::r=>match mt x.c B with
  |some true=>match n with
   |none=>noEx (k s h)
   |some i=>if i<s.length then asN i (k (s.set i (some (.v (.fn x.c x.nm.toList)))) h) else .no
  |some false=>pick mt x s h r
  |none=>.no
def BS (mt:Str->Str->Option Bool) (j:Option Nat) (f:F3) (t:A3) (hs:List Hd):D3:=fun s h=>match t s h with
 |.ok fs h1=>match vals3 fs with
  |some vs=>match f vs h1 with
   |.ok r h2=>match j with
    |some i=>if i<s.length then .nx (s.set i (some r)) h2 else .no
    |none=>.nx s h2
   |.ex x h2=>pick mt x s h2 hs
   |.no=>.no
  |none=>.no
 |_=>.no
def trOf (κ:Kx) (E:XK) (mt:Str->Str->Option Bool) (hs:List Hd):Value->Option Addr->TS:=fun cls dd D σ H=> ∃F x C,Rel κ F σ H/\F.T=[]/\κ.cl x.c=some C/\cls=.ref C/\XD F.β F.O H dd x.nm.toList/\SOut κ E F H D (pick mt x F.s F.h hs)
def phw {hs:List ExceptHandler} {t t':Value->Option Addr->TS} (h:qi X hs t) (w:∀cls dd D σ H,t' cls dd D σ H->t cls dd D σ H):qi X hs t':=fun pins σ H s D a cls dd c q=>h pins σ H s D a cls dd c (w cls dd D σ H q)
def QZ {mt:Str->Str->Option Bool}:qi X [] (trOf κ E mt []):=phw Pw fun cls dd D σ H ⟨F,x,C,_,_,_,_,_,o⟩=>o
def MtOk (κ:Kx) (mt:Str->Str->Option Bool) (B:Str) (Ba:Addr):Prop:=∀c C v,κ.cl c=some C->mt c B=some v->PySem.W.exmOne κ.K (.ref C) (.ref Ba)=some v
theorem SOut.noEx {o:O3} (h:SOut κ E F H D (noEx o)):SOut κ E0 F H D o:=by
 cases o with
 |ex x h'=>exact h.elim
 |nx s h'=>exact h
 |bk s h'=>exact h
 |ct s h'=>exact h
 |rt r h'=>exact h
 |no=>exact h
def Ik {x:Str} {B:Str} {Ba:Addr} {mt:Str->Str->Option Bool} {hs:List ExceptHandler} {b₀:Stmt} {suite:List Stmt} {k:D3} {r:List Hd} (hK:X.K=κ.K) (hM:MtOk κ mt B Ba) (hg:Gl X x) (hm:X.mg x=some (.ref Ba))
  (hs0:∀e,yj ((X.suite e).wish xNil) (b₀::suite) (zp κ E0 k)) (hr:qi X hs (trOf κ E mt r)) (hd:(x==("__debug__" :Str))=false:=by decide):
  qi X (.ExceptHandler (some (.Name x np)) none (b₀::suite) hp::hs) (trOf κ E mt ((B,none,k)::r)):=phw (Pu hg hm hs0 hr hd) fun cls dd D σ H ⟨F,y,C,rel,ht,hC,hcl,xd,o⟩=>by
 subst hcl;unfold pick at o;cases q:mt y.c B with
 |none=>rw[q]at o;exact o.elim
 |some v=>
  rw[q]at o;have ex:=hM y.c C v hC q;rw[<-hK]at ex;cases v with
  |true=>exact .inl ⟨ex,F,rel,ht,SOut.noEx o⟩
  |false=>exact .inr ⟨ex,F,y,C,rel,ht,hC,rfl,xd,o⟩
def Ra {f:F3} {t:A3} {n:Nat} {mt:Str->Str->Option Bool} {hs:List Hd} (hf:zn f n) (h:zp κ E (BS mt none f t hs) D σ H):
  EK (zm κ n f) [] (fun cls dd H'=>trOf κ E mt hs cls dd D σ H') (zB κ E0 t) σ H (fun _ H1=>D.nx σ H1):=by
 obtain⟨F,rel,ht,o⟩:=h;unfold BS at o
 refine⟨F,rel,?_⟩
 cases q:t F.s F.h with
 |no=>rw[q]at o;exact o.elim
 |ex x h1=>rw[q]at o;exact o.elim
 |ok fs h1=>
  rw[q]at o;intro β1 vs H1 e1 ⟨r1,rf⟩;cases q2:vals3 fs with
  |none=>simp only[q2]at o;exact o.elim
  |some xs=>
   simp only[q2]at o;have hr:=BP rf q2;rw[Bt]
   refine⟨F.O,β1,xs,h1,?_,r1.heap,hr,?_⟩
   .refine Fb fun n=>?_
    rw[hf xs h1 (by rw[hr.length];exact n)]at o
    exact o
   .have e0:SExt F H (F.to β1 h1) H1:=SExt.of0 ht e1
    cases q3:f xs h1 with
    |no=>rw[q3]at o;exact o.elim
    |ex x h2=>
     rw[q3]at o;intro β' H' e' rh C dd hC xd;have r2:Rel κ ((F.to β1 h1).to β' h2) σ H':=r1.next e' rh;exact⟨_,x,C,r2,ht,hC,rfl,xd,SOut.move (e0.trans (SExt.of0 (h':=h2) ht e')) o⟩
    |ok r h2=>
     rw[q3]at o
     refine FOut.of (E:=fun cls dd H'=>trOf κ E mt hs cls dd D σ H') r1 ?_
     intro β' v H' e' p1;have e2:SExt F H ((F.to β1 h1).to β' h2) H':=e0.trans (SExt.of0 (h':=h2) ht e')
     refine o ((F.to β1 h1).to β' h2) σ H' e2 rfl rfl ?_
     cases r with
     |v x=>exact p1.1
     |m c=>obtain⟨p,rfl,r1,r2,hp⟩:=p1;exact r1.drop
def Rb {x:Str} {f:F3} {t:A3} {k n:Nat} {fa:Addr} {fd:FuncData} {ps:List Str} {mt:Str->Str->Option Bool} {hs:List Hd} {h₀:ExceptHandler} {hh:List ExceptHandler} (hf:zn f n) (Fk:FnOk X.prog X.w X.K X.mg X.base (XT X.prog X.w) k fa fd ps (zm κ n f)) (hr:Room k X.A) (hg:Gl X x) (hm:X.mg x=some (.ref fa)) (hk:PySem.W.keepIn X.K (.ref fa)=true) (hb:Binds X.K fd ps [])
  (ha:∀pn W,PA ((X.pinned pn).wish W) (e::es) (zB κ E0 t)) (hst:X.stack=X.env::X.outer) (hfm:X.env.frame=some X.env.locals) (hex:X.ex=[]) (hp:qi X (h₀::hh) (trOf κ E mt hs))
  (hdb:(x==("__debug__" :Str))=false:=by decide) (he:SE X e es:=by rfl) (hpl:(backTo cpos (starEach es X.env)).any (·.1)=false:=by rfl)
  (hs0:swapsWith (.Call (.Name x np) (e::es) [] cpos) none apos.line X.env=pure false:=by rfl):
  PS X (.Try [.Expr (.Call (.Name x np) (e::es) [] cpos) apos] (h₀::hh) [] [] pos) (zp κ E (BS mt none f t hs)):=
 yV (Px (tb:=fun E' D σ H=>EK (zm κ n f) [] E' (zB κ E0 t) σ H (fun _ H1=>D.nx σ H1)) hst hfm hex (fun pn σ₀ E'=>Hr (EE (X:=(X.pinned pn).wish (EN X pn σ₀ E')) (Pr (X:=(X.pinned pn).wish (EN X pn σ₀ E')) Fk hr hg hm hk hb .nil Pt (ha pn _) hdb he hpl) hs0)) hp) fun D σ H h=>Ra hf h
def Rel.unset (rel:Rel κ F σ H):Rel κ {F with s:=F.s.set i none} (σ.set i none) H where
 heap:=rel.heap
 slen:=by show (F.s.set i none).length=_;rw[Bf,Bf];exact rel.slen
 llen:=by show F.l.length=(F.s.set i none).length;rw[Bf];exact rel.llen
 linj:=rel.linj
 lt:=rel.lt
 lo:=rel.lo
 to:=rel.to
 tn:=rel.tn
 slot:=fun j x hj=>by
  have hj:(F.s.set i none)[j]? =some (some x):=hj
  by_cases e:j=i
  .subst e
   by_cases hl:j<F.s.length
   .rw[Es hl]at hj;cases hj
   .rw[Eg (by rw[Bf];lia)]at hj;cases hj
  .rw[D8 (A5 e)]at hj
   obtain⟨v,h1,h2⟩:=rel.slot j x hj;exact⟨v,by rw[D8 (A5 e)];exact h1,h2⟩
def SExt.unset (e:SExt F H F' H'):SExt F H {F' with s:=F'.s.set i none} H':=⟨e.ext,e.lam,e.oi,e.tt⟩
theorem SOut.asN {o:O3} (h:SOut κ E F H D (asN i o)):SOut κ E0 F H {nx:=fun σ' H'=>D.nx (σ'.set i none) H',rt:=D.rt,bk:=fun σ' H'=>D.bk (σ'.set i none) H',ct:=fun σ' H'=>D.ct (σ'.set i none) H'} o:=by
 cases o with
 |ex x h'=>exact h.elim
 |no=>exact h
 |nx s h'=>exact fun F' σ' H' e es eh r=>h _ _ H' e.unset (by show F'.s.set i none=_;rw[es]) eh r.unset
 |bk s h'=>exact fun F' σ' H' e es eh r=>h _ _ H' e.unset (by show F'.s.set i none=_;rw[es]) eh r.unset
 |ct s h'=>exact fun F' σ' H' e es eh r=>h _ _ H' e.unset (by show F'.s.set i none=_;rw[es]) eh r.unset
 |rt r h'=>exact h
def Rc {x m:Str} {B:Str} {Ba:Addr} {mt:Str->Str->Option Bool} {hs:List ExceptHandler} {b₀:Stmt} {suite:List Stmt} {k:D3} {r:List Hd} (hK:X.K=κ.K) (hM:MtOk κ mt B Ba) (hN:X.N.Nodup) (hi:X.N[i]? =some m) (hlo:qH X.env.scope m) (hkd:X.env.kindOf m=some .local) (hg:Gl X x) (hm:X.mg x=some (.ref Ba))
  (hs0:∀e,yj ((X.suite e).wish xNil) (b₀::suite) (zp κ E0 k)) (hr:qi X hs (trOf κ E mt r)) (hd:(x==("__debug__" :Str))=false:=by decide) (hf:X.fn m=true\/X.env.scope.names.lookup m=some .local:=by first|exact .inl rfl|exact .inr rfl|assumption):
  qi X (.ExceptHandler (some (.Name x np)) (some m) (b₀::suite) hp::hs) (trOf κ E mt ((B,some i,k)::r)):=phw (Pv hN hi hlo hkd hg hm hs0 hr hd hf) fun cls dd D σ H ⟨F,y,C,rel,ht,hC,hcl,xd,o⟩=>by
 subst hcl;unfold pick at o;cases q:mt y.c B with
 |none=>rw[q]at o;exact o.elim
 |some v=>
  rw[q]at o;have ex:=hM y.c C v hC q;rw[<-hK]at ex;cases v with
  |true=>
   refine .inl ⟨ex,fun a ha=>?_⟩
   by_cases hi':i<F.s.length
   .simp only[Aa hi']at o
    have e1:Ext No F.β H F.β (zi H a (excO a (.ref C) dd)):=yE ha;have nb:some a∉F.β:=fun z=>by
     obtain⟨j,hj⟩:=Bz z;obtain⟨u,hu,_⟩:=rel.heap.btr j a hj;rw[ha]at hu;cases hu
    have no: ¬F.O a:=fun z=>by
     obtain⟨u,hu,_⟩:=rel.heap.trk a z;rw[ha]at hu;cases hu
    have r1:Rel κ F σ (zi H a (excO a (.ref C) dd)):=rel.laid ha;exact⟨F.setV i (.fn y.c y.nm.toList),r1.setV (.exc hC z6 nb no (xd.imp fun d u h n q=>⟨by rw[zy (fun z=>by subst z;rw[ha]at h;cases h)];exact h,n,q⟩)) hi',ht,SOut.asN (SOut.move ((SExt.of0 (h':=F.h) ht e1).trans (SExt.setN ht)) o)⟩
   .simp only[Ac hi']at o;exact o.elim
  |false=>exact .inr ⟨ex,F,y,C,rel,ht,hC,rfl,xd,o⟩
end
section
variable {X:Cx} {κ:Kx}
def qc (l:List (Str×Str×Bool)) (c B:Str):Option Bool:=match l with
 | []=>none
 | (x,y,v)::r=>if x=c/\y=B then some v else qc r c B
def MtL (κ:Kx) (l:List (Str×Str×Bool)):Prop:=∀c B v,qc l c B=some v->∃C Ba,κ.cl c=some C/\κ.cl B=some Ba/\PySem.W.exmOne κ.K (.ref C) (.ref Ba)=some v/\PySem.W.kitOne κ.K (.ref C) (.ref Ba)=some v/\ExK κ.K C
def MtL.nil:MtL κ []:=fun c B v e=>by cases e
def MtL.cons {x y:Str} {v:Bool} {C Ba:Addr} {l:List (Str×Str×Bool)} (h1:κ.cl x=some C) (h2:κ.cl y=some Ba) (h3:PySem.W.exmOne κ.K (.ref C) (.ref Ba)=some v) (h4:PySem.W.kitOne κ.K (.ref C) (.ref Ba)=some v) (h5:ExK κ.K C) (r:MtL κ l):MtL κ ((x,y,v)::l):=fun c B u e=>by
 unfold qc at e
 by_cases q:x=c/\y=B
 .rw[Aa q]at e;obtain⟨rfl,rfl⟩:=q;cases e
  exact⟨C,Ba,h1,h2,h3,h4,h5⟩
 .rw[Ac q]at e;exact r c B u e
def MtL.ok {l:List (Str×Str×Bool)} {B:Str} {Ba:Addr} (h:MtL κ l) (hB:κ.cl B=some Ba):MtOk κ (qc l) B Ba:=fun c C v hc e=>by
 obtain⟨C',Ba',a,b,x,_⟩:=h c B v e;rw[hc]at a;rw[hB]at b;cases a;cases b;exact x
end
end L3
namespace L2
open PySem PySem.Spec PyProof.Rows
section
variable {A:Around} {E:VP} {env:Env}
variable {nm q:Str} {C N:Addr} {bs bm:List Value} {hdct:Bool} {sn:List Str} {sub:List Value} {ab:Bool} {col:Option Bool} {dd:Option Addr} {k0 k1 k2 k3 k5:Option Value} {newId:String}
def Re {M:Model} {s:Shared} {x:Sem Value} {Q:Flow->Shared->Prop} (hbase:bm.contains (.type "BaseException")=true) (hh:A.handled=none)
  (h:wpAny M A x (fun v s₁=> ∃e dx vs sl,v=.ref e/\s₁.heap.get? C=some (excClassObj nm q C N bs bm hdct sn sub ab col dd k0 k1 k2 k3 k5 newId)/\s₁.heap.get? e=some ⟨.ref C,dx,.fields vs,sl⟩/\vs[1]? =some .none/\E (.ref e) s₁) E s):
  wpAny M A (raiseStmt env (some x) none) Q E s:=by
 have hcB:(Value.ref C::bm).contains (.type "BaseException")=true:=by rw[List.contains_cons,hbase,Bool.or_true]
 unfold raiseStmt
 refine Ab (thn h fun v s₁ h₁=>?_)
 obtain⟨e,dx,vs,sl,rfl,hC,he,h1,hE⟩:=h₁;obtain⟨hp,g,d,tk,os⟩:=s₁
 repeat (first|with_reducible refine Cz he rfl h1 ?_|with_reducible refine B7 he ?_|with_reducible refine B7 hC ?_|(with_reducible refine wpAny_isSubtype_exc hC ?_;rw[hcB])|wp_step)
 exact wpAny_raiseNew_none hh hE
end
def fg (H:Hp) (a:Addr):Hp:=fun b=>if b=a then none else H b
def CM {H:Hp} {a b:Addr} (h:b≠a):fg H a b=H b:=by unfold fg;rw[Ac h]
def G8 {H:Hp} {a:Addr}:fg H a a=none:=by unfold fg;rw[Aa rfl]
def G9 {H:Hp} {a b:Addr} (h:H b=none):fg H a b=none:=by unfold fg;split<;>first|rfl|exact h
section
variable {X:Cx} {pins:AL} {σ:St} {H:Hp} {s:Shared} {a C f:Addr} {φ:Heap->Prop}
def HOk.forget {P:Program} {w:World} {h:Heap} (x:HOk P w H h) (e:H a=some (.ext φ)):HOk P w (fg H a) h:=fun b u q=>by
 have hb:b≠a:=fun z=>by rw[z,G8]at q;cases q
 rw[CM hb]at q;exact (x b u q).stay (fun c v _ r=>r) (fun c r=>by rw[CM (fun z=>by rw[z,e]at r;cases r)];exact r) fun c xs r=>by rw[CM (fun z=>by rw[z,e]at r;cases r)];exact r
theorem Inv.forget (I:Inv X pins σ H s) (e:H a=some (.ext φ)):Inv X pins σ (fg H a) s:=by
 refine⟨I.ok,I.os,I.bare,⟨I.base.keep,I.base.slot,fun b u q n hx=>G9 (I.base.free b u q n hx),I.base.there,fun b xs q=>?_,fun b u v q=>?_,fun b ps q=>?_⟩,I.loc,I.cell,G9 I.free,fun y c q=>G9 (I.freeC y c q),fun p q=>?_,I.hok.forget e,I.len⟩
 .have r:=I.base.tups b xs q
  rw[CM (fun z=>by rw[z,e]at r;cases r)];exact r
 .have r:=I.base.frzs b u v q
  rw[CM (fun z=>by rw[z,e]at r;cases r)];exact r
 .obtain⟨more,r⟩:=I.base.tbls b ps q
  exact⟨more,by rw[CM (fun z=>by rw[z,e]at r;cases r)];exact r⟩
 .obtain⟨r1,r2,r3⟩:=I.pin p q
  exact⟨r1,G9 r2,r3⟩
def Il (X:Cx) (E:XK):Prop:=∀(pins:AL) (σ:St) (H:Hp) (s:Shared) (a C:Addr) (dd:Option Addr),Inv X pins σ H s->H a=some (z0 a (.ref C) dd)->X.s₀.heap.get? a=none->E (.ref C) dd (fg H a)->X.xe (.ref a) s
def Rg {P:Program} {w:World} {K:FG} {mg:Str->Option Value} {base:Heap} {N:List Str} {qual:Str} {scope:Scope} {f:Addr} {cd:Value} {A:Around} {outer:List Env} {s0:Shared} {H0:Hp} {E:XK}:Il (yk (XT P w) P w K mg base N qual scope f cd A outer s0 H0 E) E:=by
 intro pins σ H s a C dd I ea old q;obtain⟨⟨o,vs,t0,ho,hc,hd,hdd,h0,h1⟩,_⟩:=(show ObjOk P w H s.heap a (z0 a (.ref C) dd) from I.hok a _ ea)
 obtain⟨oc,od,odt,osl⟩:=o;dsimp only at hc hd hdd;subst hc hd hdd;have I':=I.forget ea
 refine Ky (base:=base) (L:=s0.heap.objs.size) (a0:= .ref t0) I'.ok.frames I'.stack rfl ho rfl h1 h0 fun h'' T' y=>?_
 obtain⟨u,hk,n1,n2⟩:=I'.left rfl rfl y fun b hb=>by
  rcases Ae.mp hb with z|hb
  .rw[z];exact⟨.inr old,G8⟩
  .exact⟨.inl hb,I'.stkFree b hb⟩
 exact⟨a,T',.ref C,_,_,fg H a,rfl,I'.os,I'.bare,u,hk,old,n1,G8,n2,y.trc,q⟩
end
section
variable {X:Cx} {C f:Addr} {fd:FuncData} {ps:List Str} {sp:Sp} {k:Nat} {x:Str} {np cpos pos:Pos} {e:Expr} {es:List Expr} {ta:TA} {E:XK}
def Rh (C:Addr) (sp:Sp) (E:XK) (ta:TA):TS:=fun _ σ H=>ta σ H fun vs H1=>vs.length<=1000/\∀a,H1 a=none->sp (.ref a::vs) (zi H1 a (z0 a (.ref C) none)) (fun v H2=>v=.non/\∃dd,H2 a=some (z0 a (.ref C) dd)/\E (.ref C) dd (fg H2 a)) (fun _ _ _=>False)
def Ri (c:XI X.K C f) (hc:X.calm=true) (hg:Gl X x) (hm:X.mg x=some (.ref C)) (F:FnOk X.prog X.w X.K X.mg X.base (XT X.prog X.w) k f fd ps sp) (hr:Room (k+1) X.A) (hb:Binds X.K fd ps []) (hex:X.ex=[]) (hrs:Il X E) (ha:PA X (e::es) ta)
  (hs:SE X e es:=by rfl) (hp:(backTo cpos (starEach es X.env)).any (·.1)=false:=by rfl) (hd:(x==("__debug__" :Str))=false:=by decide):
  PS X (.Raise (some (.Call (.Name x np) (e::es) [] cpos)) none pos) (Rh C sp E ta):=by
 intro pins s σ H D I h;obtain⟨nm,q,N,bs,bm,hdct,sn,sub,ab,col,dd,k0,k1,k2,k3,k5,hC,T⟩:=c.own I.ok.mod.kin;have hplain:(backTo cpos (starEach (e::es) X.env)).any (·.1)=false:=by rw[hs];show (false || _)=false;rw[Ef];exact hp
 rw[arm_exec_Raise]
 refine Ab (D9 (Re (C:=C) (nm:=nm) (q:=q) (N:=N) (bs:=bs) (bm:=bm) (hdct:=hdct) (sn:=sn) (sub:=sub) (ab:=ab) (col:=col) (dd:=dd) (k0:=k0) (k1:=k1) (k2:=k2) (k3:=k3) (k5:=k5) (newId:="ValueError.__new__") (T.hasType (by decide)) (I.ok.hd hc) ?_))
 refine Ab (Bj (Cy (AK I hg hm ?_ hd)) (fun v s₃ h₃=>Ab (D9 (Ad h₃))) fun _ _ x=>x)
 refine Ec (h₀:=X.base) I.ok.mod.kin c.kp (thn (ha cpos pins s σ H _ I h) fun us s1 ⟨vs,H1,I1,rv,hl,q1⟩=>⟨I1.kIn,?_⟩) hs hp
 obtain⟨hh,g,d,tk,os⟩:=s1
 refine QD c I1.kIn (T.keeps I1.bk) (I1.bk _ _ hC) (fun h' a ge mk=>?_) (by show ([]++us).length<=sizeLine;rw[Cn,<-rv.length];exact C8 (Kn hl))
 obtain⟨t0,hx,_,_⟩:=mk.there;have na:H1 a=none:=I1.hok.untracked mk.new;have I2:=I1.laid (a:=a) (o:=z0 a (.ref C) none) (h':=h') (t':=tk) mk.keeps ge (Ib ⟨_,_,t0,hx,rfl,rfl,rfl,rfl,rfl⟩);have hq:=q1 a na;have r2:Vals (V.ref a::vs) (Value.ref a::us):= .cons rfl rv;have hl2:(Value.ref a::us++([]:List Value)).length=ps.length:=by
  have e:=r2.length;rw[F.len _ _ _ _ hq]at e;rw[Bt];exact e.symm
 have old:X.s₀.heap.get? a=none:=by
  cases z:X.s₀.heap.get? a with
  |none=>rfl
  |some o=>exact absurd (Ay (Af z) (Bi I1.sz ge)) (Bn _)
 refine Dc (Cw (F.run _ X.stack _ _ ⟨Value.ref a::us,[]⟩ (Value.ref a::us) _ _ _ (hr.make C us []) (I2.env0.make C us []) (by have:=hb _ (Value.ref a::us) I2.kIn hl2;rw[Bt]at this;exact this) r2 hq) fun r s' hq'=>?_)
 cases r with
 |error e=>
  obtain⟨_,_,_,_,_,_,_,_,_,_,_,_,_,_,_,_,z⟩:=hq';exact z.elim
 |ok fl=>
  cases fl with
  |ret u=>
   obtain⟨v,H',I3,rv,ev,dx,ea,q3⟩:=I2.after hq';subst ev;obtain⟨⟨o,ws,t1,ho,hoc,hod,hodd,h0,h1⟩,_⟩:=(show ObjOk X.prog X.w H' s'.heap a (z0 a (.ref C) dx) from I3.hok a _ ea)
   obtain⟨oc,od,odt,osl⟩:=o;dsimp only at hoc hod hodd;subst hoc hod hodd;exact⟨rv,a,_,_,_,rfl,I3.bk _ _ hC,ho,h1,hrs pins σ H' s' a C _ I3 ea old q3⟩
  |next=>exact False.elim hq'
  |brk=>exact False.elim hq'
  |cont=>exact False.elim hq'
end
section
variable {X:Cx} {a b:Expr} {pos:Pos} {ta tb:TE}
def tF2 (ta tb:TE):TE:=fun σ H Q=>ta σ H fun x H1=> ∃i,x=.str i/\i.length<=10000/\tb σ H1 fun y H2=> ∃j,y=.str j/\j.length<=10000/\Q (.str (i++j)) H2
def Rj (ha:PE X a ta) (hb:PE X b tb):PE X (.JoinedStr [a,b] pos) (tF2 ta tb):=by
 intro pins s σ H Q I h;have sz:40000<=sizeLine:=by decide
 refine wpAny_JoinedStr ?_
 refine Bj (ha pins s σ H _ I h) (fun v s1 ⟨x,H1,I1,r1,i,ei,li,q1⟩=>?_) fun _ _ e=>e
 subst ei;obtain⟨t1,rfl⟩:=r1;have e0:Str.empty++i=i:=Str.empty_append i
 refine⟨i,t1,rfl,by rw[e0];lia,?_⟩
 rw[e0]
 refine Bj (hb pins s1 σ H1 _ I1 q1) (fun v s2 ⟨x,H2,I2,r2,j,ej,lj,q2⟩=>?_) fun _ _ e=>e
 subst ej;obtain⟨t2,rfl⟩:=r2
 refine⟨j,t2,rfl,by rw[Dg];lia,?_⟩
 exact⟨by rw[Dg];lia,.str _,H2,I2.tok _,⟨_,rfl⟩,q2⟩
end
def Im (C:Addr):Sp:=fun vs H Q _=> ∃a z,vs=[.ref a,.str z]/\z.length<=10000/\H a=some (z0 a (.ref C) none)/\∀d,H d=none->Q .non (zi (zi H a (z0 a (.ref C) (some d))) d (.xd [(("name" :Str),V.str z)]))
def Rk {P:Program} {w:World} {K:FG} {mg:Str->Option Value} {base:Heap} {x qual:Str} {st:Stmt} {f C:Addr} {fd:FuncData} {k:Nat} {w0:Str} (c:XI K C f) (Fn:Fun K x qual st f fd) (S:FnScope ["self","name"] ["self","name"] (zC st)) (hw:w0.length<=10000)
  (hb:∀(cdv:Value) (A:Around) (outer:List Env) (s:Shared) (H:Hp) (E:XK),Room k (A.deeper (envOfC qual (zC st) s.heap.objs.size f cdv))->
   yj (yk (XT P w) P w K mg base ["self","name"] qual (zC st) f cdv A outer s H E) (BN st) (tSeq (JD (Ln K (Hv (tVar 0) (Hv (tF2 (tC (.str w0)) (tFmt (tVar 1))) tNil)))) (Lo K (tVar 0) (tVar 1)))):
  FnOk P w K mg base (XT P w) (k+1) f fd ["self","name"] (Im C):=by
 refine Fn.okX S (fun vs H Q E h=>?_) fun cdv A outer s H vs Q E hr h=>⟨_,hb cdv A outer s H E hr,?_⟩
 .obtain⟨_,_,rfl,_⟩:=h;rfl
 .obtain⟨a,z,rfl,hz,ea,q⟩:=h
  have s0:(start ["self","name"] [V.ref a,V.str z])[0]? =some (some (V.ref a)):=rfl;have s1:(start ["self","name"] [V.ref a,V.str z])[1]? =some (some (V.str z)):=rfl
  refine⟨_,s0,w0,rfl,hw,.str z,s1,.inr ⟨z,rfl,by lia,z,rfl,hz,a,C,none,_,rfl,ea,c.it,c.sv,?_⟩⟩
  refine⟨.str z,s1,.ref a,s0,a,C,z,rfl,rfl,z6,c.toExN,fun d hd=>?_⟩
  rw[JA];exact q d (by rw[<-hd,zy (fun y=>by rw[y,z6]at hd;cases hd)])
end L2
namespace L3
open PySem PySem.Spec PyProof.Rows L2
section
variable {X:Cx} {κ:Kx} {E:XK} {F F1 F2 F':Fr} {σ σ':L2.St} {H H1 H2 H':Hp} {Q:VK} {p:Addr} {e a b o:Expr} {es:List Expr} {pos apos np cpos hp:Pos} {i:Nat} {D:Ends}
def GA (c:Str) (t:A3):D3:=fun s h=>(t s h).bindS fun fs h1=>match fs with
 | [.x (.str z)]=>if z.length<=10000 then .ex ⟨c,some (.str z)⟩ h1 else .no
 |_=>.no
def Rl {H:Hp} {a d:Addr} {u v:HO} (ha:H a=none) (hd:d≠a):fg (zi (zi H a u) d v) a=zi H d v:=by
 funext b
 by_cases hb:b=a
 .subst hb;rw[G8,zy (A5 hd)];exact ha.symm
 .rw[CM hb]
  by_cases hb2:b=d
  .subst hb2;rw[z6,z6]
  .rw[zy hb2,zy hb,zy hb2]
def Rm {c x:Str} {C f:Addr} {fd:FuncData} {k:Nat} {t:A3} (hk:κ.cl c=some C) (xi:XI X.K C f) (hc:X.calm=true) (hg:Gl X x) (hm:X.mg x=some (.ref C)) (Fk:FnOk X.prog X.w X.K X.mg X.base (XT X.prog X.w) k f fd ["self","name"] (Im C)) (hr:Room (k+1) X.A) (hb:Binds X.K fd ["self","name"] []) (hex:X.ex=[]) (hrs:Il X E) (ha:PA X (e::es) (zB κ E t))
  (hs:SE X e es:=by rfl) (hpl:(backTo cpos (starEach es X.env)).any (·.1)=false:=by rfl)
  (hd:(x==("__debug__" :Str))=false:=by decide):PS X (.Raise (some (.Call (.Name x np) (e::es) [] cpos)) none pos) (zp κ E (GA c t)):=
 yV (Ri xi hc hg hm Fk hr hb hex hrs ha hs hpl hd) fun D σ H ⟨F,rel,ht,o⟩=>(bindS (K:=kA κ) rel ht o).mono fun vs H1 ⟨β1,h1,fs,e1,⟨r1,rf⟩,o1⟩=>by
  match fs,rf,o1 with
  | [.x (.str z)],rf,o1=>
   obtain⟨v,rfl,rv⟩:=p1 rf;cases (show Rep κ β1 F.O H1 (.str z) v from rv)
   by_cases hl:z.length<=10000
   .simp only[Aa hl]at o1
    refine⟨by show 1<=1000;decide,fun a ha=>⟨a,z,rfl,hl,z6,fun d hd=>⟨rfl,some d,?_,?_⟩⟩⟩
    all_goals have nda:d≠a:=fun y=>by rw[y,z6]at hd;cases hd
    all_goals rw[zy nda]at hd
    .rw[zy (A5 nda),z6]
    .rw[JA,Rl ha nda]
     have r2:Rel κ (F.to β1 h1) σ (zi H1 d (.xd [(("name" :Str),V.str z)])):=r1.laid hd;have nb:some d∉β1:=fun y=>by
      obtain⟨j,hj⟩:=Bz y;obtain⟨u,hu,_⟩:=r1.heap.btr j d hj;rw[hd]at hu;cases hu
     have no: ¬F.Oi d:=fun y=>by
      obtain⟨u,hu,_⟩:=r1.heap.trk d (.inr (.inr y));rw[hd]at hu;cases hu
     exact o1 (F.to β1 h1) _ (SExt.of0 ht (e1.trans0 (yE hd))) (r2.heap.sub fun a ha=>.inr (.inr ha)) C (some d) hk ⟨z,rfl,z6,nb,no⟩
   .simp only[Ac hl]at o1;exact o1.elim
def eXn (c0:Str) (d:P3):E3:=fun s h=>(d s h).bind fun f h1=>match f with
 |.x (.fn c [.str z])=>if c=c0 then .ok (.v (.str z)) h1 else .no
 |_=>.no
def r_xn {c0:Str} {C:Addr} {d:P3} (hk:κ.cl c0=some C) (xi:ExN X.K C) (he:PE X e (zj κ E d)) (hb:attributeBase e "name" X.env (eval e X.env)=eval e X.env:=by rfl):PE X (.Attribute e "name" pos) (zh κ E (eXn c0 d)):=
 ym (QB he hb) fun σ H Q ⟨F,rel,o⟩=>(zO (K:=kP κ) zE rel o).mono fun v H1 ⟨β1,h1,f,e1,⟨r1,rf⟩,o1⟩=>by
  match f,rf,o1 with
  |.x (.fn c [.str z]),rf,o1=>
   by_cases hc:c=c0
   .subst hc
    simp only[Aa rfl]at o1;cases (show Rep κ β1 F.O H1 (.fn c [.str z]) v from rf) with
    | @exc _ C' a dd _ hc ha nb no xd=>
     rw[hk]at hc;cases hc;cases dd with
     |none=>cases xd
     |some d=>
      obtain⟨z',ez,hd,_,_⟩:=xd;cases ez;exact⟨a,C,d,z,rfl,ha,hd,xi,o1 β1 _ H1 Ext.refl ⟨r1,.str _⟩⟩
   .simp only[Ac hc]at o1;exact o1.elim
end
end L3
namespace L2
open PySem PySem.Spec PyProof.Rows
section
variable {X:Cx} {tg:Expr}
end
end L2
namespace Se
open PySem PySem.Spec PyProof.Rows
abbrev Ris (l:List Nat):Prop:=l.Pairwise (· < ·)
def Ris.lt {l:List Nat} (h:Ris l) {i j x y:Nat} (hi:l[i]? =some x) (hj:l[j]? =some y) (hl:i<j):x<y:=by
 obtain⟨a,rfl⟩:=An.mp hi;obtain⟨b,rfl⟩:=An.mp hj;exact List.pairwise_iff_getElem.mp h i j a b hl
structure Bel (xs:Array Nat) (j p:Nat):Prop where
 le:p<=xs.size
 lo:∀i x,i<p->xs[i]? =some x->x<j
 hi:∀i x,p<=i->xs[i]? =some x->j<=x
def Rn {xs:Array Nat} {j:Nat} (h:Ris xs.toList):∀(fuel lo hi:Nat),hi-lo<=fuel->lo<=hi->hi<=xs.size->(∀i x,i<lo->xs[i]? =some x->x<j)->(∀i x,hi<=i->xs[i]? =some x->j<=x)->Bel xs j (SetTable.below.go xs j fuel lo hi):=by
 intro fuel
 induction fuel with
 |zero=>intro lo hi a b c d e;unfold SetTable.below.go;exact⟨by lia,d,fun i x hi'=>e i x (by lia)⟩
 |succ n ih=>
  intro lo hi a b c d e;unfold SetTable.below.go
  by_cases hl:lo<hi
  .rw[Aa hl]
   dsimp only;have hm:(lo+hi) / 2<xs.size:=by lia
   have hg:xs[(lo+hi) / 2]? =some xs[(lo+hi) / 2]:=B1 hm;have hd:xs.getD ((lo+hi) / 2) j=xs[(lo+hi) / 2]:=by simp[Array.getD,hm]
   have hgl:xs.toList[(lo+hi) / 2]? =some xs[(lo+hi) / 2]:=by rw[Bm];exact hg
   rw[hd]
   by_cases hx:xs[(lo+hi) / 2]<j
   .rw[Aa hx]
    refine ih _ _ (by lia) (by lia) c (fun i x hi' ex=>?_) e
    by_cases he:i=(lo+hi) / 2
    .subst he;rw[hg]at ex;cases ex;exact hx
    .have:=h.lt (i:=i) (j:=(lo+hi) / 2) (by rw[Bm];exact ex) hgl (by lia);lia
   .rw[Ac hx]
    refine ih _ _ (by lia) (by lia) (by lia) d fun i x hi' ex=>?_
    by_cases he:i=(lo+hi) / 2
    .subst he;rw[hg]at ex;cases ex;lia
    .have:=h.lt (j:=i) (i:=(lo+hi) / 2) hgl (by rw[Bm];exact ex) (by lia);lia
  .rw[Ac hl];exact⟨by lia,d,fun i x hi'=>e i x (by lia)⟩
def Io {xs:Array Nat} {j:Nat} (h:Ris xs.toList):Bel xs j (SetTable.below xs j):=
 Rn h _ _ _ (by lia) (by lia) (Ag _) (fun i x hi=>by lia) fun i x hi e=>by have:=(C4.mp e).1;lia
def Ro {xs:Array Nat} {j:Nat} (h:Ris xs.toList) (n:xs[SetTable.below xs j]? ≠some j):j∉xs.toList:=fun m=>by
 obtain⟨i,hi⟩:=Bz m;rw[Bm]at hi;have b:=Io (j:=j) h;have h1:SetTable.below xs j<=i:=Nat.le_of_not_lt fun l=>Bn _ (b.lo i j l hi)
 by_cases e:SetTable.below xs j=i
 .rw[e]at n;exact n hi
 .have hp:SetTable.below xs j<xs.size:=by have:=(C4.mp hi).1;lia
  have g:xs[SetTable.below xs j]? =some xs[SetTable.below xs j]:=B1 hp;have:=b.hi _ _ (Ag _) g;have:=h.lt (i:=SetTable.below xs j) (j:=i) (by rw[Bm];exact g) (by rw[Bm];exact hi) (by lia)
  lia
def Rq {xs:Array Nat} {j:Nat} (h:Ris xs.toList) (n:j∉xs.toList):Ris (SetTable.insertAt xs (SetTable.below xs j) j).toList:=by
 have b:=Io (j:=j) h;generalize SetTable.below xs j=p at b;have e:(SetTable.insertAt xs p j).toList=xs.toList.take p++j::xs.toList.drop p:=by
  unfold SetTable.insertAt;rw[Array.toList_append,Array.toList_push,Array.toList_extract,Array.toList_extract];simp[List.extract_eq_drop_take,Ed];rw[List.take_of_length_le (by rw[Et];simp)]
 rw[e];have hl:∀x∈xs.toList.take p,x<j:=fun x hx=>by
  obtain⟨i,hi⟩:=Bz hx;have hip:i<p:=by
   have:=(An.mp hi).1;rw[Bc]at this;lia
  rw[Ck hip,Bm]at hi;exact b.lo i x hip hi
 have hh:∀x∈xs.toList.drop p,j<x:=fun x hx=>by
  obtain⟨i,hi⟩:=Bz hx;rw[List.getElem?_drop]at hi
  have m:x∈xs.toList:=Ap hi;rw[Bm]at hi;have:=b.hi (p+i) x (by lia) hi
  have hne:x≠j:=fun z=>n (z ▸ m)
  lia
 refine Dz.mpr ⟨h.sublist (List.take_sublist _ _),B2.mpr ⟨hh,h.sublist (List.drop_sublist _ _)⟩,fun x hx y hy=>?_⟩
 rcases Ae.mp hy with z|z
 .subst z;exact hl x hx
 .have:=hl x hx;have:=hh y z;lia
structure Tab (led:Bool) (t:SetTable):Prop where
 ris:Ris t.place.toList
 led:t.led=led
def Rr (n:Nat):Ris (Array.range n).toList:=by rw[Array.toList_range];exact List.pairwise_lt_range
theorem Tab.standIn {led:Bool} {t:SetTable} (h:Tab led t) (n:Nat):Tab led (t.standIn n):=⟨Rr n,h.led⟩
def LD {t:SetTable} (h:Ris t.place.toList) {j:Nat} (e:∀i,t.slot j≠ .live i):j∉t.place.toList:=by
 refine Ro h fun z=>e (SetTable.below t.place j) ?_
 unfold SetTable.slot;rw[Aa (by rw[z];simp)]
def Rt {t:SetTable} {ha:Nat->Int} {h:Int} (hr:Ris t.place.toList):∀(fuel:Nat) (p:SetTable.Probe) (j:Nat) (d:Option Nat),(∀x,p.dummy=some x->x∉t.place.toList)->SetTable.probe.go t ha h fuel p=some (.empty j d)->d.getD j∉t.place.toList:=by
 intro fuel
 induction fuel with
 |zero=>intro p j d _ e;unfold SetTable.probe.go at e;cases e
 |succ n ih=>
  intro p j d hd e;unfold SetTable.probe.go at e;have adv:∀q:SetTable.Probe,(t.advance q).dummy=q.dummy:=fun q=>by unfold SetTable.advance;split<;>rfl
  cases hs:t.slot p.j with
  |empty=>
   rw[hs]at e;simp only[B0,SetTable.Met.empty.injEq]at e;obtain⟨rfl,rfl⟩:=e;cases hdd:p.dummy with
   |none=>exact LD (j:=p.j) hr (by rw[hs];intro i z;cases z)
   |some x=>exact hd x hdd
  |dummy=>
   rw[hs]at e
   refine ih _ j d (fun x hx=>?_) e
   rw[adv]at hx;cases hx;exact LD hr (by rw[hs];intro i z;cases z)
  |live i=>
   rw[hs]at e;dsimp only at e
   split at e
   .cases e
   .exact ih _ j d (fun x hx=>hd x (by rw[adv]at hx;exact hx)) e
def Ru {t:SetTable} {h:Int} (hr:Ris t.place.toList) {s:Nat} {b:Bool} (e:t.freeSlot h=some (s,b)):s∉t.place.toList:=by
 unfold SetTable.freeSlot at e
 split at e
 .rename_i j d he
  cases e;exact Rt hr _ _ _ _ (fun x hx=>by cases hx) he
 .cases e
def Tab.lay {led:Bool} {t:SetTable} (h:Tab led t) (es:Array (Int×Value)) (k:Int) (x:Value):Tab led (layNew t es k x).2.1:=by
 unfold layNew
 split
 .rename_i s b e
  have hp:Tab led (t.put s).1:=⟨Rq h.ris (Ru h.ris e),h.led⟩;dsimp only;unfold SetTable.orStandIn
  split
  .exact hp
  .exact hp.standIn _
 .exact h.standIn _
def Tab.relay {led:Bool} {t:SetTable} (h:Tab led t) (es:Array (Int×Value)) (n:Nat):Tab led (relayAll t es n).2.1:=by
 unfold relayAll
 split
 .rename_i t' o e
  dsimp only
  split
  .unfold SetTable.relaid SetTable.laid at e
   simp only[Option.bind_eq_bind,Option.bind_eq_some_iff,Option.pure_def,B0,Dh]at e;obtain⟨ow,_,rfl,rfl⟩:=e
   refine⟨?_,h.led⟩
   show Ris (List.map _ _).toArray.toList;rw[List.toList_toArray,List.map_filterMap]
   refine List.Pairwise.filterMap _ (fun a b hab c hc d hd=>?_) (List.pairwise_lt_range (n:=_))
   simp only[Ei]at hc hd;obtain⟨⟨_,_⟩,⟨_,_,e1⟩,rfl⟩:=hc;obtain⟨⟨_,_⟩,⟨_,_,e2⟩,rfl⟩:=hd;cases e1;cases e2;exact hab
  .exact h.standIn _
 .exact h.standIn _
def iv:Value->Int
 |.int i _=>i
 |_=>0
abbrev byT (w:World):Bool:=w.params.followText "set-order"
def EI (e:Int×Value):Prop:=∃k tk,e.2=Value.int k tk/\e.1=hashInt k
structure SD (w:World) (ks:List Int) (o:Obj) (es:Array (Int×Value)) (ep:Nat) (t:SetTable):Prop where
 ex:o.ExactSet
 dt:o.data=.set es ep t
 el:∀e∈es.toList,EI e
 pm:(es.toList.map fun e=>iv e.2).Perm ks
 nd:ks.Nodup
 sz:es.size<scanBound
 ft:t.fits es.size=true
 tb:Tab (!byT w) t
def SG (w:World) (h:Heap) (a:Addr) (ks:List Int):Prop:=∃o es ep t,h.get? a=some o/\SD w ks o es ep t
section
variable {prog:Program} {w:World} {A:Around} {E:VP} {s:Shared} {a:Addr} {ks:List Int} {k:Int} {tk:Tok}
def Rv {l:List (Int×Value)} (h:∀e∈l,EI e):ElemsOf (intKind prog w) l:=fun e he=>by
 obtain⟨i,u,e1,e2⟩:=h e he
 refine⟨⟨i,?_,e2⟩,?_⟩
 .show Value.isInt i e.2=true;rw[e1];simp[Value.isInt]
 .rw[e1];rfl
def SD.len {o:Obj} {es:Array (Int×Value)} {ep:Nat} {t:SetTable} (d:SD w ks o es ep t):es.size=ks.length:=by
 rw[<-d.pm.length_eq,Ah,Cc]
def kis {i:Int} {e:Int×Value} (h:EI e):(intKind prog w).is i e.2=decide (iv e.2=i):=by
 obtain⟨k,u,e1,_⟩:=h;show Value.isInt i e.2=_;rw[e1];simp only[Value.isInt,iv]
 by_cases z:k=i
 .subst z;simp
 .simp[z,D7,bne_iff_ne,fun y:i=k=>z y.symm]
def LF {o:Obj} {es es':Array (Int×Value)} {ep:Nat} {t t':SetTable} {ks':List Int} (ho:s.heap.get? a=some o) (d:SD w ks o es ep t) (el:∀e∈es'.toList,EI e) (pm:(es'.toList.map fun e=>iv e.2).Perm ks') (nd:ks'.Nodup) (sz:es'.size<scanBound) (ft:t'.fits es'.size=true) (tb:Tab (!byT w) t')
  {Q:Unit->Shared->Prop} (h:∀h' o',Heap.SameBut a s.heap h'->h'.get? a=some o'->SD w ks' o' es' (ep+1) t'->Q () {s with heap:=h'}):wpAny (model prog w) A (storeSet a es' t') Q E s:=by
 refine wpAny_storeSet_of ho d.dt (h _ _ (Heap.SameBut.update s.heap a (Obj.putSet es' t')) (C1 (Obj.putSet es' t') ho (by rw[putSet_of es' t' d.dt];rfl)) ?_) (fits_of_scanBound sz)
 rw[putSet_of es' t' d.dt];exact⟨d.ex,rfl,el,pm,nd,sz,ft,tb⟩
def tail {g:Bool->Sem Unit} (hg:∀(b:Bool) (s₁:Shared) (Q':Unit->Shared->Prop),Q' () s₁->wpAny (model prog w) A (g b) Q' E s₁) {o:Obj} {es es':Array (Int×Value)} {ep:Nat} {t t':SetTable} {ks':List Int} (ho:s.heap.get? a=some o) (d:SD w ks o es ep t)
  (el:∀e∈es'.toList,EI e) (pm:(es'.toList.map fun e=>iv e.2).Perm ks') (nd:ks'.Nodup) (sz:es'.size<scanBound) (ft:t'.fits es'.size=true) (tb:Tab (!byT w) t') {wd:Bool} {R:Option Bool->Shared->Prop}
  (h:∀h',Heap.SameBut a s.heap h'->SG w h' a ks'->R (some true) {s with heap:=h'}):
  wpAny (model prog w) A (storeSet a es' t' >>=fun _=>
   if (!wd && t'.tooFull)=true then
    g (relayAll t' es' (SetTable.grown es'.size)).2.2 >>=fun _=>
     storeSet a (relayAll t' es' (SetTable.grown es'.size)).1 (relayAll t' es' (SetTable.grown es'.size)).2.1 >>=fun _=>pure (some true)
   else pure (some true)) R E s:=by
 refine Ab (LF ho d el pm nd sz ft tb fun h1 o1 sb g1 d1=>?_)
 by_cases c:(!wd && t'.tooFull)=true
 .rw[Aa c]
  have p:=relayAll_perm t' es' (SetTable.grown es'.size);have zz:(relayAll t' es' (SetTable.grown es'.size)).1.size=es'.size:=by rw[<-Cc,p.length_eq,Cc]
  refine Ab (hg _ _ _ (Ab (LF g1 d1 (fun e he=>el e (p.mem_iff.mp he)) ((p.map _).trans pm) nd (by rw[zz];exact sz) (relayAll_fits _ _ _) (tb.relay _ _) fun h2 o2 sb2 g2 d2=>Ad (h h2 (sb.trans sb2) ⟨o2,_,_,_,g2,d2⟩))))
 .rw[Ac c];exact Ad (h h1 sb ⟨o1,_,_,_,g1,d1⟩)
def LG {l:List Int} {i:Int}:l.any (· ==i)=decide (i∈l):=by
 rw[Co];simp[C2]
def Rw {Q:Bool->Shared->Prop} (hS:SG w s.heap a ks) (hroom:ks.length+1<scanBound)
  (h:∀b h',Heap.SameBut a s.heap h'->SG w h' a (step_dedup ks k)->Q b {s with heap:=h'}):wpAny (model prog w) A (setAddHashed a (.int k tk) (hashInt k)) Q E s:=by
 obtain⟨o,es,ep,t,ho,d⟩:=hS;have hel:=Rv (prog:=prog) (w:=w) d.el;have hk:(intKind prog w).is k (.int k tk)=true:=intKind_is _ _ _ _;unfold setAddHashed setAddHashedIn
 refine Cd (Ab (Cr ho d.dt d.ft ?_))
 dsimp only;rw[byScan_of (knd:=intKind prog w) (by rfl) d.sz hel]
 simp only[↓reduceIte];unfold setAddByScan
 refine Ab (Ab (wpAny_rule (Ab (wpAny_setScan_of (knd:=intKind prog w) hk ho d.dt d.ft hel ?_))))
 cases hr:List.findIdx? (fun e=>(intKind prog w).is k e.2) es.toList with
 |some j=>
  dsimp only;obtain⟨hj,hpj,_⟩:=List.findIdx?_eq_some_iff_getElem.mp hr
  have hm:k∈ks:=by
   rw[kis (d.el _ (Df hj)),Bq]at hpj;exact d.pm.mem_iff.mp (B3.mpr ⟨_,Df hj,hpj⟩)
  have:=h false s.heap (Heap.SameBut.refl a s.heap) (by unfold step_dedup;rw[Aa (by rw[LG];simpa using hm)];exact⟨o,es,ep,t,ho,d⟩)
  exact Ad (Ad this)
 |none=>
  dsimp only;have hn:k∉ks:=fun m=>by
   obtain⟨e,he,z⟩:=B3.mp (d.pm.mem_iff.mpr m);have:=List.findIdx?_eq_none_iff.mp hr e he
   rw[kis (d.el e he),z]at this;simp at this
  have es1:step_dedup ks k=ks++[k]:=by unfold step_dedup;rw[Ac (by rw[LG];simpa using hn)]
  rw[es1]at h;have p:=layNew_perm t es (hashInt k) (.int k tk);have f:=layNew_fits t es (hashInt k) (.int k tk);have tb:=d.tb.lay es (hashInt k) (.int k tk);generalize hL:layNew t es (hashInt k) (.int k tk)=L at p f tb;obtain⟨e1,t1,wd,gv⟩:=L;dsimp only at p f tb ⊢;rw[Array.toList_push]at p;have el:∀e∈e1.toList,EI e:=fun e he=>by
   rcases Aw.mp (p.mem_iff.mp he) with m|m
   .exact d.el e m
   .rw[As]at m;subst m;exact⟨k,tk,rfl,rfl⟩
  have pm:(e1.toList.map fun e=>iv e.2).Perm (ks++[k]):=by
   refine (p.map _).trans ?_
   rw[Ax];exact d.pm.append_right _
  have nd:(ks++[k]).Nodup:=D0.mpr ⟨d.nd,by simp,fun x hx y hy z=>by rw[As]at hy;subst hy;subst z;exact hn hx⟩
  have sz:e1.size<scanBound:=by
   rw[<-Cc,p.length_eq,Av,Cc,d.len];exact hroom
  have hgw:∀(b:Bool) (s₁:Shared) (Q':Unit->Shared->Prop),Q' () s₁->wpAny (model prog w) A (match b with|true=>rule "set.scan.the-table-gave-way" |false=>pure ()) Q' E s₁:=
   fun b s₁ Q' hq=>by cases b<;>first|exact Ad hq|exact wpAny_rule hq
  refine Ab (hgw _ _ _ ?_)
  split
  .refine Ab ?_
   rw[hashByValue_scannable 8 (by rfl)]
   refine Ad ?_
   exact tail (fun b s₁ Q' hq=>by cases b<;>first|exact Ad hq|exact wpAny_rule hq) ho d el pm nd sz (by simpa[plainKind] using f) (by simpa[plainKind] using tb) fun h' sb g=>Ad (h true h' sb g)
  .refine Ab (Ad ?_)
   simp only[↓reduceIte];exact tail (fun b s₁ Q' hq=>by cases b<;>first|exact Ad hq|exact wpAny_rule hq) ho d el pm nd sz f tb fun h' sb g=>Ad (h true h' sb g)
end
def SG.keep {w:World} {h h':Heap} {a:Addr} {ks:List Int} (g:SG w h a ks) (k:∀o,h.get? a=some o->h'.get? a=some o):SG w h' a ks:=let ⟨o,es,ep,t,ho,d⟩:=g;⟨o,es,ep,t,k o ho,d⟩
theorem SG.fresh {w:World} {h:Heap} {a:Addr} (e:h.get? a=some {cls:= .type "set",dict:=none,data:= .set #[] 0 (.fresh 0 0 (!byT w))}):SG w h a []:=
 ⟨_,#[],0,_,e,⟨rfl,rfl,rfl⟩,rfl,fun e he=>by simp at he,.nil,Eh,by decide,by rfl,List.Pairwise.nil,rfl⟩
section
variable {prog:Program} {w:World} {A:Around} {R:Result->Shared->Prop} {I:Addr} {fp wr:List Addr} {G:Array GenState->Array GenState->Prop} {n:Nat} {P:Nat->Value->Prop} {St:Nat->Shared->Prop}
theorem Rx (W:WalksS prog w A.in1 I fp wr G n P St) (S:Addr) (nf:S∉fp) (val:Nat->Int) (hv:∀i v,P i v->∃t,v=.int (val i) t) (hb:n+1<scanBound) (q:Nat):
  ∀(i:Nat) (s:Shared),n-i=q->i<=n->St i s->SG w s.heap S (firstMet val i)->
   (∀s',Moved (S::wr) G s s'->SG w s'.heap S (firstMet val n)->R (.ok (.ret .none)) s')->
   codeAny (model prog w) A (.builtin "set.update.loop" ⟨[.ref S,.ref I],[]⟩) R s:=by
 have nw:S∉wr:=fun h=>nf (W.sub _ h)
 have up:∀b∈wr,b∈S::wr:=fun b hb=>Am _ hb
 induction q with
 |zero=>
  intro i s e hi st g k;have:i=n:=by lia
  subst this
  refine D1 Gc ?_
  rw[Ej Fu _];show wpAny _ A.in1 (pyNext (.ref I) >>=_) _ _ s
  refine Ab (W.done s _ _ st fun s' m=>?_)
  show wpAny _ A.in1 (ret Value.none) _ _ s';exact Ad (k s' (m.mono up) (g.keep fun o ho=>m.heap S _ nw ho))
 |succ q ih=>
  intro i s e hi st g k
  refine D1 Gc ?_
  rw[Ej Fu _];show wpAny _ A.in1 (pyNext (.ref I) >>=_) _ _ s
  refine Ab (W.item i s _ _ (by lia) st fun v s' hp st' m=>?_)
  obtain⟨t,rfl⟩:=hv i v hp;have g':SG w s'.heap S (firstMet val i):=g.keep fun o ho=>m.heap S _ nw ho
  show wpAny _ A.in1 (holding [Value.int (val i) t] (setAdd S (.int (val i) t)) >>=_) _ _ s'
  refine Ab (Cd ?_)
  unfold setAdd
  refine Cd (Ab ((intKind prog w).pyHash (k:=val i) (intKind_is _ _ _ _) ?_))
  refine Rw (s:={s' with toks:=s'.toks+1}) g' (by have:=firstMet_length_le val i;lia) fun b h' sb g2=>?_
  rw[<-firstMet_succ]at g2
  refine Ad ⟨Ek Fu _,ih (i+1) _ (by lia) (by lia) (W.frame _ s' _ _ st' (Dq _) fun b hb o e=>?_) g2 fun s'' m2 g3=>?_⟩
  .rw[sb.2 b fun z=>nf (by rw[<-z];exact hb)];exact e
  .refine k s'' (Moved.trans W.gtrans ((m.mono up).then_heap (Dq _) fun b o hb e=>?_) m2) g3
   rw[sb.2 b fun z=>hb (by rw[z];exact Aj)];exact e
end
section
variable {prog:Program} {w:World} {A:Around} {E:VP} {s:Shared}
abbrev emp (w:World):Obj:={cls:= .type "set",dict:=none,data:= .set #[] 0 (.fresh 0 0 (!byT w))}
def made (a:Value) {Q₁:VP} (h:Q₁ (.ref s.heap.objs.size) {s with heap:=s.heap.push (emp w)}):
  codeAny (model prog w) A (.call (.builtin "set.__new__") ⟨[.type "set",a],[]⟩) (wants Q₁ E) s:=by
 refine codeAny_of_tree ?_
 show wpAny _ A.in1 (checkBuiltinCall "set.__new__" ⟨[.type "set",a],[]⟩ >>=fun _=>again (.builtin "set.__new__" ⟨[.type "set",a],[]⟩)) _ _ s
 refine Ab (wpAny_of_eq (PySem.F.newCall_set_1 a) (Ad ⟨Ek PySem.F.plain_set_new _,D1 PySem.F.entry_set_new ?_⟩))
 rw[Ej PySem.F.plain_set_new _];unfold Builtin.«set.__new__» Builtin.Frozenset.newClass;have hsub:=sub_set_self;obtain⟨hp,g,d,tk,os⟩:=s;dsimp only
 wp_walk
 refine Ff (Ad ?_)
 dsimp only;simp only[newObj];exact Ab (wpAny_alloc (Ad (Ad h)))
set_option maxHeartbeats 3200000 in
def Ry {l:Addr} {items:Array Value} {ns:List Int} {Q:VP} (hh:A.handled=none) (hl:s.heap.IsList l items) (hi:IntsAre items.toList ns) (hb:items.size+1<scanBound)
  (h:∀(h':Heap) (tk:Nat),SG w h' s.heap.objs.size (firstMet (fun i=>ns.getD i 0) items.size)->(∀b o,b<s.heap.objs.size->s.heap.get? b=some o->h'.get? b=some o)->s.toks<=tk->Q (.ref s.heap.objs.size) {s with heap:=h',toks:=tk}):
  wpAny (model prog w) A (call (.type "set") [.ref l]) Q E s:=by
 obtain⟨c,tl,m1⟩:=C5.mro;have m2:=C5.made;have m3:=C5.sub
 refine Dc (codeAny_of_tree ?_)
 show wpAny _ _ (callAny (.type "set") _) _ _ _
 refine Ad ⟨Code.quiet_builtin _ (by decide+kernel),D1 PySem.F.entry_type_call ?_⟩
 rw[Around.under_plain (weight_type_call_type "set" [.ref l] []) rfl];have m4:=C5.notType;have m5:=C5.canCreate;have m6:=PySem.F.typeCall_set_1 (.ref l)
 repeat (any_goals (first|assumption|wp_step))
 refine Cw (made (.ref l) (E:=E) (Q₁:=fun obj s₁=>obj=.ref s.heap.objs.size/\s₁={s with heap:=s.heap.push (emp w)}) ⟨rfl,rfl⟩) fun r s₁ hr=>?_
 cases r with
 |error e=>exact hr
 |ok fl=>
  cases fl with
  |ret obj=>
   obtain⟨rfl,rfl⟩:=hr;have g0:(s.heap.push (emp w)).get? s.heap.objs.size=some (emp w):=A6 _ rfl;have t0:Shared.TypeIs {s with heap:=s.heap.push (emp w)} (.ref s.heap.objs.size) "set" :=⟨_,g0,rfl⟩
   have m7:=C5.init.lookup;have m8:=C5.init.bind (.ref s.heap.objs.size)
   repeat (any_goals (first|assumption|wp_step))
   refine Cw (E8 (R:=wants (fun r s₂=>r=.none/\∃h' tk,s₂={s with heap:=h',toks:=tk}/\SG w h' s.heap.objs.size (firstMet (fun i=>ns.getD i 0) items.size)/\(∀b o,b<s.heap.objs.size->s.heap.get? b=some o->h'.get? b=some o)/\s.toks<=tk) E) C5.init.plain PySem.F.entry_set_init (check_set_init_1 t0 ?_)) fun r₂ s₂ hr₂=>?_
   .have l1:(s.heap.push (emp w)).IsList l items:=hl.push _
    have hlS:l<s.heap.objs.size:=by obtain⟨ol,hol,_⟩:=hl;exact Af hol
    obtain⟨ol,hol,hcl,nl,hdl⟩:=l1;have l1:(s.heap.push (emp w)).IsList l items:=⟨ol,hol,hcl,nl,hdl⟩;obtain⟨ocls,odict,odata,oslots⟩:=ol;simp only at hcl hdl;subst hcl;subst hdl;have m9:=PySem.F.sub_list_set;have m10:=PySem.F.sub_list_frozenset;have m11:(Value.type "list" ==Value.type "dict")=false:=by decide
    unfold Builtin.«set.__init__» noKeywords Builtin.Frozenset.updateFrom;generalize hPI:pyIter=PI
    wp_walk
    subst hPI
    refine Dn l1 (Ab (wpAny_runValue ?_))
    have h3:A.in1.in1.in1.handled=none:=by simp[hh]
    have n1:l≠(s.heap.push (emp w)).objs.size:=by rw[B4];exact Aq (Ee hlS)
    have n2:s.heap.objs.size∉[(s.heap.push (emp w)).objs.size,l]:=by
     rw[B4];simp only[Ae,Bg,Bb,not_or];exact⟨Aq (Da _),Ci hlS⟩
    refine Rx ((Walks.list h3 _ l n1 items).toS) s.heap.objs.size n2 (fun i=>ns.getD i 0) (fun i v hv=>IntsAre.int_at hi i v (by rw[Bm];exact hv)) hb (items.size-0) 0 _ rfl (Bw _) ⟨⟨_,A6 _ rfl,rfl,rfl⟩,l1.push _⟩ (SG.fresh (Ao _ g0)) ?_
    intro s' hm g;obtain⟨h',g',d',tk',os'⟩:=s';have eg:g'=s.gens:=hm.gens;have ed:d'=s.drawn:=hm.drawn;have eo:os'=s.os:=hm.os;subst eg;subst ed;subst eo;show wpAny _ _ _ _ _ _
    refine Ad ?_
    show wpAny _ _ (ret Value.none) _ _ _
    refine Ad ⟨rfl,h',tk',rfl,g,fun b o hb e=>?_,hm.toks⟩
    refine hm.heap b o ?_ (Ao _ (Ao _ e))
    rw[B4];simp only[Ae,Bg,Bb,not_or];exact⟨Aq hb,Aq (Ee hb)⟩
   .cases r₂ with
    |error e=>exact hr₂
    |ok fl₂=>
     cases fl₂ with
     |ret r=>
      obtain⟨rfl,h',tk,rfl,a1,a2,a3⟩:=hr₂
      repeat (any_goals (first|assumption|wp_step))
      exact h _ _ a1 a2 a3
     |_=>exact hr₂.elim
  |_=>exact hr.elim
end
def Rz {M:Model} {A:Around} {E:VP} {s:Shared} {src:Source} {n:Nat} {Q:Nat->Shared->Prop} (hn:n≠0) (h:∀i d,i<n->Q i {s with drawn:=d}):wpAny M A (choose src n) Q E s:=
 fun _ _ _=>⟨hn,h _ _ (Nat.mod_lt _ (Nat.pos_of_ne_zero hn))⟩
theorem Ip {α:Type}:∀{l:List α} {i:Nat} (h:i<l.length),(l[i]::l.eraseIdx i).Perm l
 |x::r,0,_=>.rfl
 |x::r,i+1,h=>(List.Perm.swap x (r[i]'(by simpa using h)) (r.eraseIdx i)).trans ((Ip (by simpa using h)).cons x)
theorem LH {α:Type} {M:Model} {A:Around} {E:VP}:∀(n:Nat) (xs:List α) {s:Shared} {Q:List α->Shared->Prop},xs.length<=n->(∀l d,l.Perm xs->Q l {s with drawn:=d})->wpAny M A (drawOrder n xs) Q E s
 |0,xs,s,Q,hl,h=>by
  have:xs=[]:=Dy (by lia)
  subst this;unfold drawOrder;exact Ad (h [] s.drawn .nil)
 |n+1,[],s,Q,hl,h=>by unfold drawOrder;exact Ad (h [] s.drawn .nil)
 |n+1,x::r,s,Q,hl,h=>by
  unfold drawOrder
  refine Ab (Rz (by simp) fun i d hi=>?_)
  rw[zH hi];dsimp only
  refine Ab (LH n _ (by rw[List.length_eraseIdx_of_lt hi];simp at hl ⊢;lia) fun l d' hp=>Ad (h _ d' ?_))
  exact (hp.cons _).trans (Ip hi)
theorem LI {α:Type} {next:Nat->Nat}:∀(fuel k:Nat) (left:List α) (out:Array α),left.length=fuel->(pickOrder.go next fuel k left out).toList.Perm (out.toList++left)
 |0,k,left,out,h=>by
  have:left=[]:=Dy h;subst this;unfold pickOrder.go;simp
 |f+1,k,left,out,h=>by
  unfold pickOrder.go;have hi:next k%left.length<left.length:=Nat.mod_lt _ (by lia)
  rw[zH hi];dsimp only
  refine (LI f _ _ _ (by rw[List.length_eraseIdx_of_lt hi];lia)).trans ?_
  rw[Array.toList_push,Ed];exact (Ip hi).append_left _
def LJ {α:Type} (next:Nat->Nat) (xs:Array α):(pickOrder next xs).toList.Perm xs.toList:=by
 unfold pickOrder;have:=LI (next:=next) xs.size 0 xs.toList #[] (by simp)
 simpa using this
def atP (t:SetTable):Nat->Nat
 |0=>0
 |i+1=>t.place.getD i 0+1
def LK {t:SetTable} (h:Ris t.place.toList) {i:Nat} (hi:i<=t.place.size):SetTable.below t.place (atP t i)=i:=by
 have b:=Io (j:=atP t i) h;have get:∀{k:Nat},k<t.place.size->t.place[k]? =some (t.place.getD k 0):=fun {k} hk=>by
  rw[B1 hk];simp[Array.getD,hk]
 generalize hp:SetTable.below t.place (atP t i)=p at b;cases i with
 |zero=>
  cases p with
  |zero=>rfl
  |succ q=>
   have:=b.le;have:=b.lo 0 _ (by lia) (get (k:=0) (by lia))
   simp[atP]at this
 |succ j=>
  have hj:=get (k:=j) (by lia)
  have h1: ¬p<=j:=fun z=>by have:=b.hi j _ z hj;simp only[atP]at this;lia
  by_cases h2:p=j+1
  .exact h2
  .have hk:=get (k:=j+1) (by have:=b.le;lia)
   have l1:=b.lo (j+1) _ (by lia) hk
   have l2:=h.lt (i:=j) (j:=j+1) (by rw[Bm];exact hj) (by rw[Bm];exact hk) (by lia)
   simp only[atP]at l1;lia
def dr (es:Array (Int×Value)) (t:SetTable):Bool:= !t.plain && decide (es.size > 1)
inductive Way (w:World) (S:Addr) (es:Array (Int×Value)) (ep:Nat) (t:SetTable) (i:Nat) (h:Heap):Value->List Value->Prop
 |text (e:byT w=true):Way w S es ep t i h (.int 0 0) ((pickOrder (w.params.setOrder S ep) es).toList.map (·.2))
 |table (e:byT w=false) (d:dr es t=false):Way w S es ep t i h (.int (atP t i) 0) (es.toList.map (·.2))
 |drawn (pl:List Nat) (T:Addr) (o:Obj) (z:Nat) (p:pl.Perm (List.range es.size)) (g:h.get? T=some o) (d:o.data=.seq (pl.map fun (k:Nat)=>Value.int (k:Int) 0).toArray z):Way w S es ep t i h (.ref T) (pl.map fun k=>(es[k]?.map (·.2)).getD .none)
def Way.perm {w:World} {S:Addr} {es:Array (Int×Value)} {ep:Nat} {t:SetTable} {i:Nat} {h:Heap} {f:Value} {ord:List Value} (W:Way w S es ep t i h f ord):ord.Perm (es.toList.map (·.2)):=by
 cases W with
 |text e=>exact (LJ _ _).map _
 |table e d=>exact .rfl
 |drawn pl T o z p g d=>
  refine (p.map _).trans ?_
  have:(List.range es.size).map (fun k=>(es[k]?.map (·.2)).getD Value.none)=es.toList.map (·.2):=by
   refine List.ext_getElem (by simp) fun k h1 h2=>?_
   have hk:k<es.size:=by simpa using h1
   simp[hk]
  rw[this]
structure At (w:World) (S I:Addr) (T:Option Addr) (es:Array (Int×Value)) (ep:Nat) (t:SetTable) (ord:List Value) (i:Nat) (h:Heap):Prop where
 set:∃o,h.get? S=some o/\o.data=.set es ep t
 ft:t.fits es.size=true
 tb:Tab (!byT w) t
 it:∃f,h.get? I=some {cls:= .type "set_iterator",dict:=none,data:= .fields #[f,.int i 0,.ref S,.int es.size 0,.int ep 0],slots:= #[]}/\Way w S es ep t i h f ord/\∀x,f=.ref x->T=some x
abbrev SI:String:="set_iterator"
def si_next:Slot SI "__next__" "set_iterator.__next__" :=
 .of (owner:=SI) (n:="__next__") (by rw[typeLookup_type,Fv];kernel_rfl) (by decide+kernel) (by decide+kernel) (by decide+kernel) (by first|exact .inl (by decide+kernel)|exact .inr (by decide+kernel)) (by rw[isSubtype_type];kernel_rfl)
def LL:entryFor table "set_iterator.__next__" =some Builtin.«set_iterator.__next__» :=entryFor_of_tree (by kernel_rfl)
def LM:Manifest.owners.lookup (String.ofList "rotareti_tes".toList.reverse)=some Manifest.sig_set_iterator:=by kernel_rfl
def LN (a:Value):argsOk "set_iterator.__next__" ⟨[a],[]⟩:=by
 unfold argsOk;rw[signature?_of (id:="set_iterator.__next__") (n:="__txen__".toList) (o:="rotareti_tes".toList) (by kernel_rfl) LM];kernel_rfl
def R0:entryFor table "set.__iter__" =some Builtin.«frozenset.__iter__» :=entryFor_alias (id':="frozenset.__iter__") (by kernel_rfl) rfl (by decide+kernel) (by kernel_rfl)
section
variable {prog:Program} {w:World} {A:Around} {E:VP} {s:Shared} {S I:Addr} {T:Option Addr} {es:Array (Int×Value)} {ep:Nat} {t:SetTable} {ord:List Value} {i:Nat}
def CN {Q:Bool->Shared->Prop} (h:Q (byT w) s):wpAny (model prog w) A setsByText Q E s:=by
 unfold setsByText;exact Ab (Ff (Ad h))
def put2 {f f':Value} {v:Value} {i n ep:Nat} {S:Addr} {Q:Option Value->Shared->Prop} {E':VP} {A':Around} (hi:s.heap.get? I=some {cls:= .type SI,dict:=none,data:= .fields #[f,.int i 0,.ref S,.int n 0,.int ep 0],slots:= #[]})
  (h:∀h',Heap.SameBut I s.heap h'->h'.get? I=some {cls:= .type SI,dict:=none,data:= .fields #[f',.int (i+1:Nat) 0,.ref S,.int n 0,.int ep 0],slots:= #[]}->wpAny (model prog w) A' (pure (some v)) Q E {s with heap:=h'}):
  wpAny (model prog w) A (setField (.ref I) 0 f' >>=fun _=>setField (.ref I) 1 (rawInt ((i:Int)+1)) >>=fun _=>ret v) (fun zW s'=> ∃v,zW=Fin.done (Flow.ret v)/\wpAny (model prog w) A' (pure (some v)) Q E s') E' s:=by
 refine Ab (D2 hi (by simp) fun h1 g1 sb1=>Ab (D2 (s:={s with heap:=h1}) g1 (by simp) fun h2 g2 sb2=>Ad ⟨_,rfl,h h2 (sb1.trans sb2) ?_⟩))
 rw[g2];simp[rawInt]
def R1 {v:Value} {Q:Option Value->Shared->Prop} (hA:At w S I T es ep t ord i s.heap) (hv:ord[i]? =some v) (hIS:I≠S) (hT:∀x,T=some x->x≠I)
  (h:∀h',Heap.SameBut I s.heap h'->At w S I T es ep t ord (i+1) h'->Q (some v) {s with heap:=h'}):wpAny (model prog w) A (pyNext (.ref I)) Q E s:=by
 obtain⟨⟨o,ho,hd⟩,ft,tb,f,hi,W,hT'⟩:=hA;have ty:s.TypeIs (.ref I) SI:=⟨_,hi,rfl⟩;unfold pyNext
 refine Ab (wpAny_attempt (Fl (name:=Str.ofString "__next__") ty si_next (Dr si_next ty LL ?_ (LN _))))
 unfold Builtin.«set_iterator.__next__»
 refine Ab (Ad ?_)
 refine Ab (wpAny_fieldsOf hi rfl ?_)
 dsimp only
 refine Ab (wpAny_setEntries_of ho hd ft ?_)
 rw[Ac (by simp)]
 cases W with
 |text e=>
  have hl:i<(pickOrder (w.params.setOrder S ep) es).size:=by
   have:=(An.mp hv).1;simpa using this
  refine Ab ?_
  unfold setNext
  refine Ab (Cr ho hd ft (Ab (CN ?_)))
  rw[Aa e,Ac (by simp)]
  refine Ab (Ab ?_)
  refine Cr ho hd ft (Ab (CN ?_))
  rw[Aa e]
  refine Ab (Ff (Ad (Ad ?_)))
  rw[Cs,show (pickOrder (({program:=(model prog w).prog,params:=(model prog w).w.params}:Setting).params.setOrder S ep) es)[i]? =_ from B1 hl]
  have ev:v=(pickOrder (w.params.setOrder S ep) es)[i].2:=by
   rw[A9,Bm,B1 hl]at hv;exact (Option.some.inj hv).symm
  rw[ev]at h;exact put2 hi (fun h' sb g'=>Ad (h h' sb ⟨⟨o,(sb.2 S hIS.symm).trans ho,hd⟩,ft,tb,_,g',.text e,fun x z=>by cases z⟩))
 |table e d=>
  refine Ab ?_
  unfold setNext
  refine Ab (Cr ho hd ft (Ab (CN ?_)))
  rw[Ac (by rw[e];simp)]
  show wpAny _ _ (if dr es t=true then _ else _) _ _ _
  rw[Ac (by rw[d];simp)]
  show wpAny _ _ ((if (!t.led && !es.isEmpty)=true then unsupported "set:maker-not-led" else pure ()) >>=_) _ _ _
  rw[Ac (by rw[tb.led,e];simp)]
  refine Ab (Ad (Ad ?_))
  have hz:t.place.size=es.size:=by simp only[SetTable.fits,Ar,Au]at ft;exact ft.1
  have hl:i<es.size:=by have:=(An.mp hv).1;simpa using this
  rw[Cs,LK tb.ris (by lia),B1 hl,B1 (by lia:i<t.place.size)]
  have ev:v=es[i].2:=by
   rw[A9,Bm,B1 hl]at hv;exact (Option.some.inj hv).symm
  rw[ev]at h;have en:t.place[i]+1=atP t (i+1):=by
   have:i<t.place.size:=by lia
   simp[atP,Array.getD,this]
  refine put2 (f':=rawInt ((t.place[i]+1:Nat):Int)) hi (fun h' sb g'=>Ad (h h' sb ⟨⟨o,(sb.2 S hIS.symm).trans ho,hd⟩,ft,tb,_,g',?_,fun x z=>by cases z⟩))
  rw[en];exact .table e d
 |drawn pl T' o' z p g d=>
  refine Ab (wpAny_seqItems g d ?_)
  dsimp only;have hl:i<pl.length:=by have:=(An.mp hv).1;simpa using this
  have hp:pl[i]<es.size:=by have:=p.mem_iff.mp (Df hl);simpa using this
  have ev:v=es[pl[i]].2:=by
   rw[A9,zH hl]at hv;simp only[Bh,B0]at hv;rw[B1 hp]at hv;exact hv.symm
  have eg:((pl.map fun (k:Nat)=>Value.int (k:Int) 0).toArray)[((i:Nat):Int).toNat]? =some (.int (pl[i]:Nat) 0):=by
   rw[Cs,List.getElem?_toArray,A9,zH hl];rfl
  rw[eg];dsimp only
  refine Ab ?_
  unfold setNextDrawn
  refine Ab (Cr ho hd ft ?_)
  dsimp only;rw[Ac (by simp),Cs,B1 hp]
  refine Ab (Ad (Ad ?_))
  rw[ev]at h;have hTI:T'≠I:=hT T' (hT' T' rfl)
  refine Ab (D2 hi (by simp) fun h' g' sb=>Ad ⟨_,rfl,Ad (h h' sb ⟨⟨o,(sb.2 S hIS.symm).trans ho,hd⟩,ft,tb,.ref T',?_,.drawn pl T' o' z p ((sb.2 T' hTI).trans g) d,hT'⟩)⟩)
  rw[g'];simp[rawInt]
end
section
variable {prog:Program} {w:World} {A:Around} {E:VP} {s:Shared} {S I:Addr} {T:Option Addr} {es:Array (Int×Value)} {ep:Nat} {t:SetTable} {ord:List Value} {i:Nat}
def LO {α:Type} {R:α->Shared->Prop} {Q:Option Value->Shared->Prop} (hh:A.handled=none) (h:∀h',(∀b o,s.heap.get? b=some o->h'.get? b=some o)->Q none {s with heap:=h'}):
  wpAny (model prog w) A.in1 (newExc (.type "StopIteration") [] >>=fun e=>(raiseNew e:Sem α)) R (fun e s'=>wpAny (model prog w) A (isInstance e (.type "StopIteration") >>=fun b=>if b=true then pure none else throw e) Q E s') s:=by
 refine Ab ?_
 simp only[newExc,newTuple]
 refine Ab (B6 ?_ (by size_fits))
 refine Ab (m:=firstArgMember _ _) (wpAny_of_eq (a:=Value.none) (by first|rfl|(simp only[firstArgMember];rfl)) (B6 ?_ (by size_fits)))
 simp only[raiseNew]
 refine Ab (wpAny_handled ?_)
 rw[show A.in1.handled=none from hh]
 refine Ab (Ad (wpAny_throw ?_))
 exact Ab (wpAny_isInstance (T:="StopIteration") (b:=true) ⟨_,A6 _ rfl,rfl⟩ isSubtype_stop (Ad (h _ fun b o e=>Ao _ (Ao _ e))))
def R3 {Q:Option Value->Shared->Prop} (hh:A.handled=none) (hA:At w S I T es ep t ord es.size s.heap) (hIS:I≠S)
  (h:∀h',(∀b o,b≠I->s.heap.get? b=some o->h'.get? b=some o)->Q none {s with heap:=h'}):wpAny (model prog w) A (pyNext (.ref I)) Q E s:=by
 obtain⟨⟨o,ho,hd⟩,ft,tb,f,hi,W,hT'⟩:=hA;have ty:s.TypeIs (.ref I) SI:=⟨_,hi,rfl⟩;have end2:∀{R:Fin->Shared->Prop},wpAny (model prog w) A.in1 (setField (.ref I) 2 Value.none >>=fun _=>newExc (.type "StopIteration") [] >>=fun e=>(raiseNew e:Sem Fin)) R (fun e s'=>wpAny (model prog w) A (isInstance e (.type "StopIteration") >>=fun b=>if b=true then pure none else throw e) Q E s') s:=fun {R}=>
  Ab (D2 hi (by simp) fun h1 g1 sb=>LO (s:={s with heap:=h1}) hh fun h' k=>h h' fun b o hb e=>k b o ((sb.2 b hb).trans e))
 unfold pyNext
 refine Ab (wpAny_attempt (Fl (name:=Str.ofString "__next__") ty si_next (Dr si_next ty LL ?_ (LN _))))
 unfold Builtin.«set_iterator.__next__»
 refine Ab (Ad ?_)
 refine Ab (wpAny_fieldsOf hi rfl ?_)
 dsimp only
 refine Ab (wpAny_setEntries_of ho hd ft ?_)
 rw[Ac (by simp)]
 have hpz:∀(f:Nat->Nat),(pickOrder f es).size=es.size:=fun f=>by
  have:=(LJ f es).length_eq;simpa using this
 cases W with
 |text e=>
  refine Ab ?_
  unfold setNext
  refine Ab (Cr ho hd ft (Ab (CN ?_)))
  rw[Aa e,Ac (by simp)]
  refine Ab (Ab ?_)
  refine Cr ho hd ft (Ab (CN ?_))
  rw[Aa e]
  refine Ab (Ff (Ad (Ad ?_)))
  rw[Cs,Fw (by rw[hpz];exact Ag _)]
  exact end2
 |table e d=>
  refine Ab ?_
  unfold setNext
  refine Ab (Cr ho hd ft (Ab (CN ?_)))
  rw[Ac (by rw[e];simp)]
  show wpAny _ _ (if dr es t=true then _ else _) _ _ _
  rw[Ac (by rw[d];simp)]
  show wpAny _ _ ((if (!t.led && !es.isEmpty)=true then unsupported "set:maker-not-led" else pure ()) >>=_) _ _ _
  rw[Ac (by rw[tb.led,e];simp)]
  refine Ab (Ad (Ad ?_))
  have hz:t.place.size=es.size:=by simp only[SetTable.fits,Ar,Au]at ft;exact ft.1
  rw[Cs,LK tb.ris (by lia),Fw (Ag _)]
  exact end2
 |drawn pl T' o' z p g d=>
  refine Ab (wpAny_seqItems g d ?_)
  dsimp only;have hl:pl.length=es.size:=by rw[p.length_eq,B9]
  rw[Cs,Fw (by simp[hl])]
  dsimp only
  refine Ab (D2 hi (by simp) fun h1 g1 sb=>Ab (D2 (s:={s with heap:=h1}) g1 (by simp) fun h2 g2 sb2=>LO (s:={s with heap:=h2}) hh fun h' k=>h h' fun b o hb e=>k b o (((sb2.2 b hb).trans (sb.2 b hb)).trans e)))
def R4 {Q:VP} {ks:List Int} {o:Obj} (ho:s.heap.get? S=some o) (d:SD w ks o es ep t)
  (h:∀(I:Addr) (T:Option Addr) (ord:List Value) (h':Heap) (dr:Drawn),(∀b o,s.heap.get? b=some o->h'.get? b=some o)->s.heap.objs.size<=I->I<h'.objs.size->(∀x,T=some x->s.heap.objs.size<=x/\x<h'.objs.size/\x≠I)->At w S I T es ep t ord 0 h'->ord.Perm (es.toList.map (·.2))->Q (.ref I) {s with heap:=h',drawn:=dr}):wpAny (model prog w) A (pyIter (.ref S)) Q E s:=by
 have ty:s.TypeIs (.ref S) "set" :=⟨o,ho,d.ex.1⟩
 refine wpAny_pyIter_slot ty PySem.F.slot_set_iter (Dr PySem.F.slot_set_iter ty R0 ?_ (PySem.F.args_set_iter_1 _))
 unfold Builtin.«frozenset.__iter__»
 refine Ab (Ad ?_)
 refine Ab ?_
 unfold Builtin.Frozenset.sizeOf
 refine Ab (wpAny_setEntries_of ho d.dt d.ft (Ad ?_))
 refine Ab ?_
 unfold setDrawn
 refine Ab (Cr ho d.dt d.ft (Ab (CN (Ad ?_))))
 show wpAny _ _ (if (!byT w && dr es t)=true then _ else _) _ _ _
 have zW:∀(f:Value) (h1:Heap) (dd:Drawn) (T:Option Addr) (ord:List Value),(∀b o,s.heap.get? b=some o->h1.get? b=some o)->s.heap.objs.size<=h1.objs.size->(∀x,T=some x->s.heap.objs.size<=x/\x<h1.objs.size)->(∀x,f=.ref x->T=some x)->(∀h',(∀b o,h1.get? b=some o->h'.get? b=some o)->Way w S es ep t 0 h' f ord)->wpAny (model prog w) A.in1 (setEpoch S >>=fun e=>newFields "set_iterator" [f,rawInt 0,.ref S,rawInt es.size,rawInt e] >>=fun r=>ret r)
   (fun zW s'=> ∃v,zW=Fin.done (Flow.ret v)/\∃T' r,s'.TypeIs v T'/\typeLookup (.type T') "__next__" =pure (some r)/\Q v s') E {s with heap:=h1,drawn:=dd}:=by
  intro f h1 dd T ord k1 k2 k3 k4 W
  refine Ab (wpAny_setEpoch_of (s:={s with heap:=h1,drawn:=dd}) (k1 _ _ ho) d.dt d.ft ?_)
  refine Ab (B6 (Ad ⟨_,rfl,SI,_,⟨_,A6 _ rfl,rfl⟩,si_next.lookup,?_⟩))
  have kk:∀b o,h1.get? b=some o->(h1.push {cls:= .type SI,data:= .fields #[f,rawInt 0,.ref S,rawInt es.size,rawInt ep]}).get? b=some o:=fun b o e=>Ao _ e
  have W':=W _ kk
  refine h h1.objs.size T ord _ dd (fun b o e=>kk b o (k1 b o e)) k2 (by rw[B4];exact Da _) (fun x hx=>⟨(k3 x hx).1,by rw[B4];exact Ee (k3 x hx).2,Aq (k3 x hx).2⟩) ⟨⟨o,kk _ _ (k1 _ _ ho),d.dt⟩,d.ft,d.tb,f,?_,W',k4⟩ W'.perm
  exact A6 _ rfl
 by_cases c:(!byT w && dr es t)=true
 .rw[Aa c]
  refine Ab (LH _ _ (by simp) fun l dd hp=>Ab ?_)
  have hz:l.length=es.size:=by rw[hp.length_eq,B9]
  have hsz:=d.sz
  refine B6 ?_ (by have:=fits_of_scanBound d.sz;unfold sizeOk;simpa[hz] using this)
  refine zW (.ref s.heap.objs.size) _ dd (some s.heap.objs.size) (l.map fun k=>(es[k]?.map (·.2)).getD .none) (fun b o e=>Ao _ e) (by rw[B4];exact Dq _) (fun x z=>by cases z;exact⟨Ag _,by rw[B4];exact Da _⟩) (fun x z=>by cases z;rfl) fun h' k=>?_
  exact .drawn l _ _ _ hp (k _ _ (A6 _ rfl)) rfl
 .rw[Ac c]
  refine Ab (Ad ?_)
  by_cases e:byT w=true
  .exact zW (rawInt 0) s.heap s.drawn none _ (fun _ _ e=>e) (Ag _) (fun x z=>by cases z) (fun x z=>by cases z) fun h' _=>.text e
  .have e':byT w=false:=by simpa using e
   exact zW (rawInt 0) s.heap s.drawn none _ (fun _ _ e=>e) (Ag _) (fun x z=>by cases z) (fun x z=>by cases z) fun h' _=>.table e' (by rw[e']at c;simpa using c)
end
def R5:typeLookup (.type "set") "__len__" =pure (some (.builtin "set.__len__")):=by rw[typeLookup_type,Fv];kernel_rfl
def LP:Slot SI "__iter__" "set_iterator.__iter__" :=
 .of (owner:=SI) (n:="__iter__") (by rw[typeLookup_type,Fv];kernel_rfl) (by decide+kernel) (by decide+kernel) (by decide+kernel) (by first|exact .inl (by decide+kernel)|exact .inr (by decide+kernel)) (by rw[isSubtype_type];kernel_rfl)
def R6:entryFor table "set_iterator.__iter__" =some Builtin.«dict_keyiterator.__iter__» :=entryFor_alias (id':="dict_keyiterator.__iter__") (by kernel_rfl) rfl (by decide+kernel) (by kernel_rfl)
def R7 (a:Value):argsOk "set_iterator.__iter__" ⟨[a],[]⟩:=by
 unfold argsOk;rw[signature?_of (id:="set_iterator.__iter__") (n:="__reti__".toList) (o:="rotareti_tes".toList) (by kernel_rfl) LM];kernel_rfl
section
variable {prog:Program} {w:World} {A:Around} {E:VP} {s:Shared} {S I:Addr} {T:Option Addr} {es:Array (Int×Value)} {ep:Nat} {t:SetTable} {ord:List Value} {i:Nat}
def R8 {Q:Bool->Shared->Prop} (hT:s.TypeIs (.ref S) "set") (h:Q false s):wpAny (model prog w) A (Builtin.List.listLengthHint (.ref S)) Q E s:=by
 unfold Builtin.List.listLengthHint
 refine Ab (wpAny_specialOf hT R5 ?_)
 generalize hid:("set.__len__" :String)=id0
 wp_delta
 rw[show splitId id0=some ("set","__len__") from by subst hid;decide+kernel]
 subst hid
 refine Ab (wpAny_isInstance (T:="set") (b:=true) hT (by rw[isSubtype_type];kernel_rfl) ?_)
 refine wpAny_ite_split (fun z=>absurd z (by decide)) (fun _=>?_)
 exact wpAny_ite_split (fun _=>Ab (wpAny_typeOf hT (Ad h))) (fun z=>absurd (by decide+kernel) z)
def At.move {h h':Heap} (a:At w S I T es ep t ord i h) (k:∀b∈I::S::T.toList,∀o,h.get? b=some o->h'.get? b=some o):At w S I T es ep t ord i h':=by
 obtain⟨⟨o,ho,hd⟩,ft,tb,f,hi,W,hT⟩:=a
 refine⟨⟨o,k S (by simp) o ho,hd⟩,ft,tb,f,k I (by simp) _ hi,?_,hT⟩
 cases W with
 |text e=>exact .text e
 |table e d=>exact .table e d
 |drawn pl T' o' z p g d=>exact .drawn pl T' o' z p (k T' (by simp[hT T' rfl]) _ g) d
def R9 (hh:A.handled=none) (hIS:I≠S) (hT:∀x,T=some x->x≠I) (hn:ord.length=es.size):WalksS prog w A I (I::S::T.toList) [I] Eq es.size (fun i v=>ord[i]? =some v) (fun i s=>At w S I T es ep t ord i s.heap) where
 sub:=fun b hb=>by rw[As]at hb;subst hb;exact Aj
 grefl:=fun _=>rfl
 gtrans:=fun _ _ _ a b=>a.trans b
 frame:=fun i s h' tk a _ k=>a.move k
 item:=fun i s Q E hi a h=>by
  have hi':i<ord.length:=by lia
  exact R1 a (zH hi') hIS hT fun h' sb a'=>h _ _ (zH hi') a' ⟨fun b o hb e=>(sb.2 b (by simpa using hb)).trans e,rfl,rfl,rfl,Ag _⟩
 done:=fun s Q E a h=>R3 hh a hIS fun h' k=>h _ ⟨fun b o hb e=>k b o (by simpa using hb) e,rfl,rfl,rfl,Ag _⟩
 self:=fun i s Q E a h=>by
  obtain⟨f,hi,_⟩:=a.it;have ty:s.TypeIs (.ref I) SI:=⟨_,hi,rfl⟩
  refine wpAny_pyIter_slot ty LP (Dr LP ty R6 ?_ (R7 _))
  show wpAny _ _ (ret (.ref I)) _ _ s;exact Ad ⟨_,rfl,SI,_,ty,si_next.lookup,h⟩
theorem LQ:∀{l:List Value},(∀v∈l,∃k tk,v=Value.int k tk)->IntsAre l (l.map iv)
 | [],_=>.nil
 |v::r,h=>by
  obtain⟨k,tk,rfl⟩:=h v Aj;exact .cons k tk (LQ fun x hx=>h x (Am _ hx))
def RA {src:Addr} {T:String} {n:Nat} (Rp:(Nat->Value->Prop)->Prop) {Q:List Value->Shared->Prop} (hlt:src<s.heap.objs.size) (ty:∀(h:Heap) (dd:Drawn),(∀b o,s.heap.get? b=some o->h.get? b=some o)->Shared.TypeIs {s with heap:=h,drawn:=dd} (.ref src) T)
  (nl:(Value.type T==Value.type "list")=false) (nt:(Value.type T==Value.type "tuple")=false) (hint:∀(A':Around) (s':Shared) (Q':Bool->Shared->Prop) (E':VP),s'.TypeIs (.ref src) T->Q' false s'->wpAny (model prog w) A' (Builtin.List.listLengthHint (.ref src)) Q' E' s')
  (it:∀(h0:Heap) (Q':VP) (E':VP),(∀b o,s.heap.get? b=some o->h0.get? b=some o)->(∀(I:Addr) (fp:List Addr) (P:Nat->Value->Prop) (St:Nat->Shared->Prop) (h1:Heap) (dd:Drawn),Rp P->(∀b o,h0.get? b=some o->h1.get? b=some o)->h0.objs.size<=I->(∀b∈fp,b=src\/h0.objs.size<=b)->WalksS prog w A.in1 I fp [I] Eq n P St->St 0 {s with heap:=h1,drawn:=dd}->Q' (.ref I) {s with heap:=h1,drawn:=dd})->wpAny (model prog w) A.in1 (pyIter (.ref src)) Q' E' {s with heap:=h0})
  (hn:n<=sizeLine) (h:∀(P:Nat->Value->Prop) (acc:Array Value) (h':Heap) (dd:Drawn) (tk:Nat),Rp P->ItemsOf P acc n->(∀b o,s.heap.get? b=some o->h'.get? b=some o)->s.toks<=tk->s.heap.objs.size<=h'.objs.size->Q acc.toList {s with heap:=h',drawn:=dd,toks:=tk}):wpAny (model prog w) A (collect (.ref src)) Q E s:=by
 unfold collect
 refine Ab (wpAny_runValue (D1 PySem.F.entry_proto_collect ?_))
 rw[Ej PySem.F.plain_proto_collect _];show wpAny _ A.in1 (newList [] >>=fun l=>again (.builtin "list.__iadd__" ⟨[l,.ref src],[]⟩)) _ _ s
 refine Ab (B6 ?_)
 refine Ad ⟨Ek PySem.F.plain_list_iadd _,D1 PySem.F.entry_list_iadd ?_⟩
 rw[Ej PySem.F.plain_list_iadd _];generalize hL:s.heap.objs.size=L at hlt;have g0:(s.heap.push {cls:= .type "list",data:= .seq ([]:List Value).toArray}).get? L=some {cls:= .type "list",data:= .seq ([]:List Value).toArray}:=by rw[<-hL];exact A6 _ rfl
 have k0:∀b o,s.heap.get? b=some o->(s.heap.push {cls:= .type "list",data:= .seq ([]:List Value).toArray}).get? b=some o:=fun b o e=>Ao _ e
 have sz0:(s.heap.push {cls:= .type "list",data:= .seq ([]:List Value).toArray}).objs.size=L+1:=by rw[B4,hL]
 generalize s.heap.push {cls:= .type "list",data:= .seq ([]:List Value).toArray}=h0 at g0 k0 sz0;show wpAny _ A.in1 (Builtin.List.listExtendWith (.ref L) (.ref src) (.ref L)) _ _ {s with heap:=h0}
 unfold Builtin.List.listExtendWith
 refine Ab (wpAny_typeOf (ty h0 s.drawn k0) ?_)
 have n1:Builtin.List.listSameRef (.ref L) (.ref src)=false:=by
  have:L≠src:=Ci hlt;simp[Builtin.List.listSameRef,this]
 simp only[n1,nl,nt,Ds,Dw,Bx]
 refine Ab (it h0 _ _ k0 fun I fp P St h1 dd hP k1 i1 hf W st=>?_)
 rw[sz0]at i1 hf
 refine Ab (Cd (hint _ {s with heap:=h1,drawn:=dd} _ _ (ty h1 dd fun b o e=>k1 b o (k0 b o e)) ?_))
 have nf:L∉fp:=fun m=>by
  rcases hf L m with z|z
  .exact Ci hlt z
  .exact Nat.not_succ_le_self _ z
 have key:∀(h2:Heap) (c:Nat),St 0 {s with heap:=h2,drawn:=dd}->(∀b o,b≠L->h1.get? b=some o->h2.get? b=some o)->h2.get? L=some {cls:= .type "list",data:= .seq #[] c}->
   codeAny (model prog w) A (.builtin "list.extend.loop" ⟨[.ref L,.ref I,.ref L],[]⟩) (fun r s'=>match r with | .ok (.ret v)=>wpAny (model prog w) A (match v with | .ref a=>load a >>=fun o=>(match o.data with | .seq xs _=>pure xs.toList|_=>unsupported "internal:collect")|_=>unsupported "internal:collect") Q E s' | .ok _=>False | .error e=>E e s') {s with heap:=h2,drawn:=dd}:=by
  intro h2 c a2 k2 g2
  refine codeAny_extend_loopS W hn L nf (.ref L) n 0 _ #[] c rfl (Bw _) a2 g2 (ItemsOf.nil _) fun s' acc c' hm g' hacc=>?_
  show wpAny _ A (load L >>=_) _ _ s'
  refine Ab (wpAny_load g' (Ad ?_))
  have es':s'={s with heap:=s'.heap,drawn:=dd,toks:=s'.toks}:=by
   obtain⟨u1,u2,u3,u4,u5⟩:=s';have e1:s.gens=u2:=hm.gens;have e2:u3=dd:=hm.drawn;have e3:u5=s.os:=hm.os;subst e1;subst e2;subst e3;rfl
  rw[es']
  refine h P acc s'.heap dd s'.toks hP hacc (fun b o hb=>?_) hm.toks (by rw[hL];exact C8 (Af g'))
  have hbs:b<L:=by rw[<-hL];exact Af hb
  refine hm.heap b o ?_ (k2 b o (Aq hbs) (k1 b o (k0 b o hb)))
  simp only[Ae,Bg,Bb,not_or];exact⟨Aq hbs,fun z=>absurd (Ay (z ▸ hbs) (Nat.le_of_succ_le i1)) (Bn _)⟩
 have g1:=k1 _ _ g0
 refine wpAny_ite_split (fun _=>?_) (fun _=>Ad ⟨Ek PySem.F.plain_extend_loop _,key h1 0 st (fun b o _ e=>e) g1⟩)
 refine Ab (wpAny_rule (Ab ?_))
 show wpAny _ _ (updateSeq L (·.push .none) >>=fun _=>updateSeq L (·.pop)) _ _ _
 refine Ab (wpAny_updateSeq g1 rfl ?_)
 have g2:=C1 (Obj.mapSeq (·.push Value.none)) g1 rfl
 refine wpAny_updateSeq (hz:=by seq_fits) g2 rfl ?_
 have g3:=C1 (Obj.mapSeq (·.pop)) g2 rfl;have oth:∀b o,b≠L->h1.get? b=some o->((h1.update L (Obj.mapSeq (·.push Value.none))).update L (Obj.mapSeq (·.pop))).get? b=some o:=fun b o hb e=>
  (Cm _ _ (A5 hb)).trans ((Cm _ _ (A5 hb)).trans e)
 exact Ad ⟨Ek PySem.F.plain_extend_loop _,key _ _ (W.frame 0 {s with heap:=h1,drawn:=dd} _ s.toks st (Ag _) fun b hb o e=>oth b o (fun z=>nf (z ▸ hb)) e) oth g3⟩
def RB {acc:Array Value} {ord:List Value} (h:ItemsOf (fun i v=>ord[i]? =some v) acc ord.length):acc.toList=ord:=by
 refine List.ext_getElem? fun i=>?_
 by_cases hi:i<acc.size
 .rw[h.2 i _ (B1 hi),Bm,B1 hi]
 .rw[Eg (by simpa using hi),Eg (by rw[<-h.1];lia)]
def RC {ks:List Int} {Q:List Value->Shared->Prop} (hh:A.handled=none) (hS:SG w s.heap S ks)
  (h:∀(vs:List Value) (ns:List Int) (h':Heap) (dd:Drawn) (tk:Nat),IntsAre vs ns->ns.Perm ks->(∀b o,s.heap.get? b=some o->h'.get? b=some o)->s.toks<=tk->Q vs {s with heap:=h',drawn:=dd,toks:=tk}):wpAny (model prog w) A (collect (.ref S)) Q E s:=by
 obtain⟨o,es,ep,t,ho,d⟩:=hS;have hlt:S<s.heap.objs.size:=Af ho
 refine RA (T:="set") (n:=es.size) (fun P=> ∃ord:List Value,ord.Perm (es.toList.map (·.2))/\P=fun i v=>ord[i]? =some v) hlt (fun h dd k=>⟨o,k _ _ ho,d.ex.1⟩) (by decide) (by decide) (fun _ _ _ _ ty q=>R8 ty q) (fun h0 Q' E' k0 q=>?_) (fits_of_scanBound d.sz) fun P acc h' dd tk hP hacc k ht _=>?_
 .refine R4 (s:={s with heap:=h0}) (k0 _ _ ho) d fun I T ord h1 dd k1 i1 i2 iT a pm=>?_
  have hlt0:S<h0.objs.size:=Af (k0 _ _ ho);have IS:I≠S:=fun z=>absurd (Ay (z ▸ hlt0) i1) (Bn _)
  have hol:ord.length=es.size:=by rw[pm.length_eq,Ah,Cc]
  refine q I (I::S::T.toList) _ _ h1 dd ⟨ord,pm,rfl⟩ k1 i1 (fun b hb=>?_) (R9 hh IS (fun x hx=>(iT x hx).2.2) hol) a
  simp only[Ae,Option.mem_toList]at hb
  rcases hb with rfl|rfl|hb
  .exact .inr i1
  .exact .inl rfl
  .exact .inr (iT b hb).1
 .obtain⟨ord,pm,rfl⟩:=hP
  have hol:ord.length=es.size:=by rw[pm.length_eq,Ah,Cc]
  rw[<-hol]at hacc;rw[RB hacc]
  refine h ord (ord.map iv) h' dd tk (LQ fun v hv=>?_) ((pm.map iv).trans (by rw[Ca];exact d.pm)) k ht
  obtain⟨e,he,rfl⟩:=B3.mp (pm.mem_iff.mp hv);obtain⟨k,tk,e1,_⟩:=d.el e he;exact⟨k,tk,e1⟩
end
section
variable {prog:Program} {w:World} {A:Around} {E:VP} {s:Shared}
def RD {x:Value} {Q:VP} (h:wpAny (model prog w) A.in1 (collect x) (fun vs s1=> ∃ns,IntsAre vs ns/\vs.length<64/\∀(h':Heap) (out:Array Value) (c:Nat) (ns':List Int),IntsAre out.toList ns'->ns'.Perm ns->ns'.Pairwise (· <= ·)->(∀b o,s1.heap.get? b=some o->h'.get? b=some o)->h'.get? s1.heap.objs.size=some (seqObj "list" out c)->Q (.ref s1.heap.objs.size) {s1 with heap:=h'}) E s):
  wpAny (model prog w) A (call (.builtin "sorted") [x]) Q E s:=by
 refine Calls.call_function_entry kind_sorted plain_sorted entry_sorted (args_sorted1 _) ?_
 unfold Builtin.«sorted»
 refine Ab (m:=checkCount "sorted" 1 1 _) (Ad (Ab (L2.thn h fun vs s1 ⟨ns,hi,hl,k⟩=>?_)))
 refine Ab (wpAny_newList ?_ (by rw[C9];lia))
 have g:(s1.heap.push (seqObj "list" vs.toArray 0)).get? s1.heap.objs.size=some (seqObj "list" vs.toArray 0):=A6 _ rfl
 refine Ab (Cd (Dr slot_list_sort ⟨_,g,rfl⟩ entry_list_sort (list_sort_tree g hi hl fun out ns' a1 a2 a3=>⟨_,rfl,?_⟩) (args_list_sort _)))
 obtain⟨c,hc⟩:=sortedHeap_at (out:=out) g;exact Ad ⟨_,rfl,k _ out c ns' a1 a2 a3 (fun b o e=>by
  have hb:b<s1.heap.objs.size:=Af e;rw[sortedHeap_old (Aq hb) (by rw[size_push'];exact Ee hb)]
  exact Ao _ e) hc⟩
end
end Se
namespace L2
open PySem PySem.Spec PySem.W PyProof.Rows Se
theorem LR:∀{ns:List Int} {vs:List Value},Vals (ns.map V.int) vs->IntsAre vs ns
 | [],_,.nil=>.nil
 |_::_,_,.cons ⟨_,e⟩ r=>by subst e;exact .cons _ _ (LR r)
theorem Iq:∀{vs:List Value} {ns:List Int},IntsAre vs ns->Vals (ns.map V.int) vs
 |_,_,.nil=>.nil
 |_,_,.cons n t r=>.cons ⟨t,rfl⟩ (Iq r)
def zN (l:List Int):List Int:=l.foldl step_dedup []
def RE {ns:List Int} {n:Nat} (h:n=ns.length):firstMet (fun i=>ns.getD i 0) n=zN ns:=by
 subst h;unfold firstMet zN
 congr 1
 refine List.ext_getElem (by simp) fun i h1 h2=>?_
 simp[C6,h2]
def LS (K:FG):List V->Hp->VK->Prop:=fun xs H Q=> ∃(p:Addr) (ns:List Int),xs=[.ref p]/\SqL K H p (ns.map V.int)/\ns.length<4000/\(zN ns).length<64/\
 ∀(l:Addr) (ns':List Int),H l=none->ns'.Perm (zN ns)->ns'.Pairwise (· <= ·)->Q (.ref l) (zi H l (.lst (ns'.map V.int)))
section
variable {X:Cx} {K:FG} {e:Expr} {p1 p2 q1 q2:Pos} {t:TA}
theorem RF (hK:X.K=K) (hc:X.calm=true) (hg:Gl X "sorted") (hm:X.mg "sorted" =none) (hg2:Gl X "set") (hm2:X.mg "set" =none) (ha:PA X [e] t) (he:starEach [e] X.env=[(false,eval e X.env)]:=by rfl)
  (he2:starEach [.Call (.Name "set" p2) [e] [] q2] X.env=[(false,eval (.Call (.Name "set" p2) [e] [] q2) X.env)]:=by rfl):PE X (.Call (.Name "sorted" p1) [.Call (.Name "set" p2) [e] [] q2] [] q1) (tCB (LS K) t):=by
 subst hK;intro pins s σ H Q I h
 refine Cy (AM I hg hm (show bootBuiltins "sorted" =some (.builtin "sorted") by rfl) ?_ (by decide) (by decide))
 refine PyProof.Rows.callWith_builtin1 ?_ he2 rfl
 rw[he2];show wpAny _ _ (spliced ((false,eval _ X.env)::backTo q1 [])) _ _ s
 refine Calls.spliced_cons ?_
 refine Cy (AM I hg2 hm2 (show bootBuiltins "set" =some (.type "set") by rfl) ?_ (by decide) (by decide))
 refine Do (thn (ha q2 pins s σ H _ I h) fun us s1 ⟨vs,H1,I1,r1,q1⟩=>?_) he rfl
 obtain⟨p,ns,rfl,hq,hb,ho,q⟩:=q1;obtain⟨u,rfl,rx⟩:=AQ r1;cases rx;obtain⟨its,rv,pl,hz⟩:=I1.list hq;have hln:its.length=ns.length:=by have:=rv.length;rw[Ah]at this;lia
 have hsz:its.toArray.size=ns.length:=by simpa using hln
 refine Ry (I.ok.hd hc) pl.isList (LR rv) (by rw[hsz];unfold scanBound;lia) fun h1 tk g k1 ht=>?_
 rw[RE hsz]at g;have k1':∀b o,s1.heap.get? b=some o->h1.get? b=some o:=fun b o e=>k1 b o (Af e) e
 refine Calls.spliced_nil ?_
 refine RD (RC (A:=X.A.in1) (I.ok.hd hc) g fun vs ms h2 dd tk2 a1 a2 k2 ht2=>⟨ms,a1,?_,fun h3 out c ns' b1 b2 b3 k3 g3=>?_⟩)
 .have:=(Iq a1).length
  rw[Ah,a2.length_eq]at this;lia
 .have I2:Inv X pins σ H1 {s1 with drawn:=dd}:=⟨I1.ok,I1.os,I1.bare,I1.base,I1.loc,I1.cell,I1.free,I1.freeC,I1.pin,I1.hok,I1.len⟩
  have hge:s1.heap.objs.size<=h2.objs.size:=by
   obtain⟨o,es,ep,t,hg,_⟩:=g;exact C8 (Af (k2 _ _ hg))
  exact⟨.ref _,_,I2.laid (t':=tk2) (o:= .lst (ns'.map V.int)) (fun b o e=>k3 b o (k2 b o (k1' b o e))) hge ⟨by rw[Ah,(b2.trans a2).length_eq,C9];lia,out.toList,c,Iq b1,by rw[Array.toArray_toList];exact g3⟩,rfl,q _ ns' (I1.hok.fresh hge) (b2.trans a2) b3⟩
end
end L2
namespace L3
open PySem PySem.Spec PyProof.Rows L2
section
variable {X:Cx} {κ:Kx} {E:XK} {e:Expr} {p1 p2 q1 q2:Pos} {t:A3}
def DU:FB:=fun s h fs=>match fs with
 | [f]=>match rdl s h f with
  |some xs=>match zF int3 xs with
   |some ns=>if ns.length<4000/\(zN ns).length<64 then some (.m (.lst ((FA (zN ns)).map .int))) else none
   |none=>none
  |none=>none
 |_=>none
theorem RG:ql κ (LS κ.K) DU:=fun F σ H fs z vs Q rel r e k=>by
 unfold DU at e
 split at e
 .rename_i f
  obtain⟨v,rfl,rv⟩:=p1 r;cases q1:rdl F.s F.h f with
  |none=>rw[q1]at e;cases e
  |some xs=>
   rw[q1]at e;obtain⟨a,ys,rfl,sq,rs⟩:=AB rel rv q1;cases q3:zF int3 xs with
   |none=>simp only[q3]at e;cases e
   |some ns=>
    simp only[q3]at e;obtain⟨hl,rfl⟩:=qr e
    refine⟨a,ns,rfl,by rw[<-HR rs q3];exact sq,hl.1,hl.2,fun l ns' hn pm pw=>?_⟩
    have e:=PJ (pm.trans (CF (zN ns)).1.symm) pw (CF (zN ns)).2;rw[e];exact k _ _ (yE hn) (Post.lst rel hn (KM _))
 .cases e
theorem RH (hK:X.K=κ.K) (hc:X.calm=true) (hg:Gl X "sorted") (hm:X.mg "sorted" =none) (hg2:Gl X "set") (hm2:X.mg "set" =none) (ha:PA X [e] (zB κ E t)) (he:starEach [e] X.env=[(false,eval e X.env)]:=by rfl)
  (he2:starEach [.Call (.Name "set" p2) [e] [] q2] X.env=[(false,eval (.Call (.Name "set" p2) [e] [] q2) X.env)]:=by rfl):PE X (.Call (.Name "sorted" p1) [.Call (.Name "set" p2) [e] [] q2] [] q1) (zh κ E (eB DU t)):=
 ym (RF hK hc hg hm hg2 hm2 ha he he2) fun _ _ _ h=>te_b RG h
end
end L3
namespace My
open PySem L2 L3
def qD:List (Str×Str×Bool):=[(("TooMany" :Str),("TooMany" :Str),true),(("TooMany" :Str),("Twice" :Str),false),(("TooMany" :Str),("NoName" :Str),false),(("TooMany" :Str),("NoNumber" :Str),false),(("Twice" :Str),("TooMany" :Str),false),(("Twice" :Str),("Twice" :Str),true),(("Twice" :Str),("NoName" :Str),false),(("Twice" :Str),("NoNumber" :Str),false),(("NoName" :Str),("TooMany" :Str),false),(("NoName" :Str),("Twice" :Str),false),(("NoName" :Str),("NoName" :Str),true),(("NoName" :Str),("NoNumber" :Str),false),(("NoNumber" :Str),("TooMany" :Str),false),(("NoNumber" :Str),("Twice" :Str),false),(("NoNumber" :Str),("NoName" :Str),false),(("NoNumber" :Str),("NoNumber" :Str),true),(("Twice" :Str),("YardError" :Str),true)]
def Ir:D3:=(sSeq (sSet 2 (eOp zK (pE (eOp zl (pE (eOp zl (pV 0) (pE (eOp oMul (kJ 7919) (pV 1))))) (kJ 11))) (kJ 2147483647))) (sSeq (sSet 2 (eOp zK (pE (eOp oMul (pV 2) (pV 2))) (kJ 2147483629))) (sRet (eOp zK (pE (eOp oMul (pV 2) (kJ 48271))) (kJ 2147483647)))))
def yI:F3:=fun3 2 3 Ir
def qg:zn yI 2:=zx
def Iu:D3:=(zt (qu (aCons (pE (eOp zK (pE (eCall yI (aCons (pV 0) (aCons (kJ 1) aNil)))) (kJ 7))) aNil)) (gN 2) (yW yZ (pV 1) (aCons (pE (eTup (aCons (pE (eOp zl (kJ 1) (pE (eOp zK (pE (eCall yI (aCons (pV 0) (aCons (pE (eOp zl (kJ 10) (pV 2))) aNil)))) (kJ 9))))) (aCons (pE (eOp zK (pE (eCall yI (aCons (pV 0) (aCons (pE (eOp zl (kJ 20) (pV 2))) aNil)))) (kJ 17))) aNil)))) aNil)))
def Iv:D3:=(sSeq (sSet 1 (eLst aNil)) (sSeq Iu (sSeq (sIf (tAnd3 (tE (eOp yh (pV 1) (pE (eLst aNil)))) (tE (eOp yM (pE (eOp zK (pE (eCall yI (aCons (pV 0) (aCons (kJ 2) aNil)))) (kJ 2))) (kJ 0)))) (qj (pV 1) (kJ 0) (eTup (aCons (pE (eOp zl (pE (eOp zk (pE (eOp zk (pV 1) (kJ 0))) (kJ 0))) (pE (eOp zK (pE (eCall yI (aCons (pV 0) (aCons (kJ 3) aNil)))) (kJ 900001))))) (aCons (pE (eOp zk (pE (eOp zk (pV 1) (kJ 0))) (kJ 1))) aNil)))) sSkip) (sRetS 1))))
def CO:F3:=fun3 1 3 Iv
def RI:zn CO 1:=zx
def Iw:D3:=(zt (iL (pV 0)) (gT (gsCons (gN 2) (gsCons (gN 3) gsNil))) (sIf (tAnd3 (tP (pV 1)) (tE (eOp yM (pE (eOp zk (pE (eOp zk (pV 1) (pE (eNeg (kJ 1))))) (kJ 1))) (pV 3)))) (qj (pV 1) (pE (eNeg (kJ 1))) (eTup (aCons (pE (eOp zl (pE (eOp zk (pE (eOp zk (pV 1) (pE (eNeg (kJ 1))))) (kJ 0))) (pV 2))) (aCons (pV 3) aNil)))) (yW yZ (pV 1) (aCons (pE (eTup (aCons (pV 2) (aCons (pV 3) aNil)))) aNil))))
def Iy:D3:=(sSeq (sSet 1 (eLst aNil)) (sSeq Iw (sRetS 1)))
def FO:F3:=fun3 1 4 Iy
def RJ:zn FO 1:=zx
def FP:D3:=(sSeq (sSet 2 (eCall FO (aCons (pV 0) aNil))) (sSeq (sIf (tAnd3 (tP (pV 2)) (tE (eOp yM (pE (eOp zk (pE (eOp zk (pV 2) (pE (eNeg (kJ 1))))) (kJ 1))) (pV 1)))) (yW mPop (pV 2) aNil) sSkip) (sRetS 2)))
def CP:F3:=fun3 2 3 FP
def RK:zn CP 2:=zx
def Iz:D3:=(sRet (eAnd (eB bIsT (aCons (pV 0) (aCons (pE (eC (.ty "int"))) aNil))) (eNot (eB bIsT (aCons (pV 0) (aCons (pE (eC (.ty "bool"))) aNil))))))
def FQ:F3:=fun3 1 1 Iz
def RL:zn FQ 1:=zx
def GB:D3:=(sRet (eAnd (eCall FQ (aCons (pV 0) aNil)) (eChain qd qd (pV 1) (pV 0) (pV 2))))
def qq:F3:=fun3 3 3 GB
def CQ:zn qq 3:=zx
def IA:D3:=(sRet (eCall qq (aCons (pV 0) (aCons (kJ 0) (aCons (kJ 16) aNil)))))
def FR:F3:=fun3 1 1 IA
def RM:zn FR 1:=zx
def IB:D3:=(sSeq (sIf (tOr3 (tNot3 (tE (eB bIsT (aCons (pV 0) (aCons (pE (eC (.ty "tuple"))) aNil))))) (tE (eOp yh (pE (eB bLen (aCons (pV 0) aNil))) (kJ 2)))) (sRet (eC (.bl false))) sSkip) (sRet (eAnd (eCall qq (aCons (pE (eOp zk (pV 0) (kJ 0))) (aCons (kJ 1) (aCons (kJ 1000000) aNil)))) (eCall FR (aCons (pE (eOp zk (pV 0) (kJ 1))) aNil)))))
def FS:F3:=fun3 1 1 IB
def RN:zn FS 1:=zx
def GC:E3:=(yt 1 [] (iL (pV 0)) (gN 0) tTru (eCall FS (aCons (pV 0) aNil)))
def IC:D3:=(sSeq (sIf (tOr3 (tNot3 (tE (eB bIsT (aCons (pV 0) (aCons (pE (eC (.ty "list"))) aNil))))) (tE (eOp oGt (pE (eB bLen (aCons (pV 0) aNil))) (kJ 16)))) (sRet (eC (.bl false))) sSkip) (sRet (eB (bAll fun bs=>bs.all id) (aCons (pE GC) aNil))))
def FT:F3:=fun3 1 1 IC
def RO:zn FT 1:=zx
def ID:D3:=(sRet (eCall qq (aCons (pV 0) (aCons (kJ 1) (aCons (kJ 16) aNil)))))
def FU:F3:=fun3 1 1 ID
def RP:zn FU 1:=zx
def IE:D3:=(sSeq (sIf (tOr3 (tNot3 (tE (eCall FT (aCons (pV 1) aNil)))) (tNot3 (tE (eCall FU (aCons (pV 2) aNil))))) sNever sSkip) (sSeq (G4 [("Calendar" :Str)] ("stretches" :Str) (pV 0) (eCall CP (aCons (pV 1) (aCons (pV 2) aNil)))) (G4 [("Calendar" :Str)] ("beyond" :Str) (pV 0) (eV 2))))
def CS:F3:=fun3 3 3 IE
def RQ:zn CS 3:=zx
def GD:D3:=(sSeq (sIf (tE (eOp oLt (pV 1) (pE (eB bLen (aCons (pV 0) aNil))))) (sRet (eOp zk (pV 0) (pV 1))) sSkip) (sRet (eC (.int 0))))
def yG:F3:=fun3 2 2 GD
def GE:zn yG 2:=zx
def GF:D3:=(sSeq (sSet 3 (eB bMax (aCons (kJ 0) (aCons (pE (eOp zl (pE (eOp ya (pV 2) (kJ 4))) (pE (eOp zK (pE (eCall yI (aCons (pV 0) (aCons (kJ 1) aNil)))) (kJ 30))))) aNil)))) (sSeq (sSet 4 (eB bMax (aCons (pE (eNeg (kJ 1))) (aCons (pE (eOp zl (pE (eOp ya (pV 3) (kJ 2))) (pE (eOp zK (pE (eCall yI (aCons (pV 0) (aCons (kJ 2) aNil)))) (kJ 23))))) aNil)))) (sSeq (sIf (tE (eOp yM (pE (eOp zK (pE (eCall yI (aCons (pV 0) (aCons (kJ 3) aNil)))) (kJ 5))) (kJ 0))) (sSeq (sSet 3 (eB bMax (aCons (kJ 0) (aCons (pE (eOp ya (pV 2) (kJ 2))) aNil)))) (sSet 4 (eOp zl (pE (eOp zl (pV 2) (kJ 10))) (pE (eOp zK (pE (eCall yI (aCons (pV 0) (aCons (kJ 4) aNil)))) (kJ 3)))))) sSkip) (sSeq (sFz 4) (sRet (eTup (aCons (pE (eOp zl (pE (eC (.str ("j" :Str)))) (pE (eB FN (aCons (pV 1) aNil))))) (aCons (pV 3) (aCons (pV 4) (aCons (pE (eOp zl (kJ 1) (pE (eOp zK (pE (eCall yI (aCons (pV 0) (aCons (kJ 5) aNil)))) (kJ 60))))) (aCons (pE (eOp zl (kJ 1) (pE (eOp zK (pE (eCall yI (aCons (pV 0) (aCons (kJ 6) aNil)))) (kJ 16))))) aNil)))))))))))
def DV:F3:=fun3 3 5 GF
def RS:zn DV 3:=zx
def IF:D3:=(zt (iR2 (aCons (pV 1) (aCons (pE (eB bMin (aCons (pE (eB bLen (aCons (pV 0) aNil))) (aCons (kJ 63) aNil)))) aNil))) (gN 4) (sIf (tE (eOp oLt (pV 4) (pE (eOp zl (pV 1) (pV 2))))) (yW yZ (pV 3) (aCons (pE (eOp zk (pV 0) (pV 4))) aNil)) (sSeq (sSet 5 (eOp zK (pE (eOp ya (pV 4) (pV 1))) (pV 2))) (qj (pV 3) (pV 5) (eOp zl (pE (eOp zk (pV 3) (pV 5))) (pE (eOp oMul (kJ 7919) (pE (eOp zk (pV 0) (pV 4))))))))))
def IG:D3:=(sSeq (sSet 3 (eLst aNil)) (sSeq IF (sRetS 3)))
def FV:F3:=fun3 3 6 IG
def RT:zn FV 3:=zx
def GG:E3:=(yt 2 [1] (FC (aCons (pE (eCall FV (aCons (pV 0) (aCons (kJ 3) (aCons (kJ 12) aNil))))) aNil)) (gT (gsCons (gN 0) (gsCons (gN 1) gsNil))) tTru (eCall DV (aCons (pV 1) (aCons (pV 0) (aCons (pV 2) aNil)))))
def FW:D3:=(sSeq (sSet 2 GG) (sSeq (sSet 3 (eCall yG (aCons (pV 0) (aCons (kJ 2) aNil)))) (sSeq (sFz 3) (sSeq (sIf (tAnd3 (tE (eOp yh (pV 2) (pE (eLst aNil)))) (tE (eOp yM (pE (eOp zK (pE (eCall yI (aCons (pV 3) (aCons (kJ 1) aNil)))) (kJ 3))) (kJ 0)))) (sSeq (sSet 4 (eOp zk (pV 2) (kJ 0))) (sSeq (sFz 3) (qj (pV 2) (kJ 0) (eTup (aCons (pE (eOp zk (pV 4) (kJ 0))) (aCons (pE (eOp zk (pV 4) (kJ 1))) (aCons (pE (eOp zl (pE (eOp zl (pV 1) (kJ 200))) (pE (eOp oMul (pE (eCall yI (aCons (pV 3) (aCons (kJ 2) aNil)))) (kJ 4))))) (aCons (pE (eOp zk (pV 4) (kJ 3))) (aCons (pE (eOp zk (pV 4) (kJ 4))) aNil))))))))) sSkip) (sRetS 2)))))
def BG:F3:=fun3 2 5 FW
def RU:zn BG 2:=zx
def GH:E3:=(yt 1 [1] (iL (pV 0)) (gN 0) (tE (eChain qd qd (pE (eOp zk (pV 0) (kJ 1))) (pV 1) (pE (eOp zk (pV 0) (kJ 2))))) (eOp zk (pV 0) (kJ 0)))
def IH:D3:=(sRet GH)
def FX:F3:=fun3 2 2 IH
def RV:zn FX 2:=zx
def II:D3:=(zt (iL (pV 0)) (gT (gsCons (gN 3) (gsCons (gN 4) gsNil))) (sSeq (sIf (tE (eOp oLt (pV 2) (pV 3))) (sRetS 4) sSkip) (sSet 2 (eOp ya (pV 2) (pV 3)))))
def IJ:D3:=(sSeq II (sRetS 1))
def FY:F3:=fun3 3 5 IJ
def RW:zn FY 3:=zx
def IK:D3:=(zt (iR2 (aCons (pE (eB bMax (aCons (kJ 0) (aCons (pE (eOp ya (pV 3) (kJ 5))) aNil)))) (aCons (pE (eOp zl (pV 3) (kJ 200))) aNil))) (gN 6) (sSeq (sSet 7 (eLst (aCons (pE (eCall FX (aCons (pV 0) (aCons (pV 6) aNil)))) (aCons (pE (eCall FY (aCons (pV 1) (aCons (pV 2) (aCons (pV 6) aNil))))) aNil)))) (sSeq (sIf (tE (eOp yh (pE (eOp zk (pV 7) (kJ 0))) (pE (eLst aNil)))) (sIf (tE (eOp yM (pV 7) (pV 5))) (qj (pV 4) (pE (eNeg (kJ 1))) (eTup (aCons (pE (eOp zk (pE (eOp zk (pV 4) (pE (eNeg (kJ 1))))) (kJ 0))) (aCons (pV 6) (aCons (pE (eOp zk (pV 7) (kJ 1))) aNil))))) (yW yZ (pV 4) (aCons (pE (eTup (aCons (pV 6) (aCons (pV 6) (aCons (pE (eOp zk (pV 7) (kJ 1))) aNil))))) aNil))) sSkip) (sSeq (sFz 7) (sSet 5 (eV 7))))))
def IL:D3:=(sSeq (sSet 4 (eLst aNil)) (sSeq (sSet 5 (eLst aNil)) (sSeq IK (sSeq (sIf (tAnd3 (tE (eOp yh (pV 0) (pE (eLst aNil)))) (tE (eOp oGe (pE (eOp zk (pE (eOp zk (pV 0) (kJ 0))) (kJ 2))) (pE (eOp zl (pV 3) (kJ 200)))))) (qj (pV 4) (pE (eNeg (kJ 1))) (eTup (aCons (pE (eOp zk (pE (eOp zk (pV 4) (pE (eNeg (kJ 1))))) (kJ 0))) (aCons (pE (eOp zk (pE (eOp zk (pV 0) (kJ 0))) (kJ 2))) (aCons (pE (eOp zk (pE (eOp zk (pV 4) (pE (eNeg (kJ 1))))) (kJ 2))) aNil))))) sSkip) (sRetS 4)))))
def CT:F3:=fun3 4 8 IL
def RX:zn CT 4:=zx
def GI:E3:=(yt 1 [] (iS (pV 0)) (gN 0) tTru (eOp (oInS false) (pV 0) (pE (eC (.str ("abcdefghijklmnopqrstuvwxyz0123456789" :Str))))))
def GJ:D3:=(sSeq (sIf (tOr3 (tNot3 (tE (eB bIsT (aCons (pV 0) (aCons (pE (eC (.ty "str"))) aNil))))) (tNot3 (tE (eChain qd qd (kJ 1) (pE (eB bLen (aCons (pV 0) aNil))) (kJ 8))))) (sRet (eC (.bl false))) sSkip) (sRet (eAnd (eOp (oInS false) (pE (eOp zk (pV 0) (kJ 0))) (pE (eC (.str ("abcdefghijklmnopqrstuvwxyz" :Str))))) (eB (bAll fun bs=>bs.all id) (aCons (pE GI) aNil)))))
def BU:F3:=fun3 1 1 GJ
def RY:zn BU 1:=zx
def GK:D3:=(sSeq (sIf (tOr3 (tNot3 (tE (eCall qq (aCons (pV 0) (aCons (kJ 0) (aCons (kJ 1000000000) aNil)))))) (tNot3 (tE (eCall qq (aCons (pV 1) (aCons (pE (eNeg (kJ 1))) (aCons (kJ 10000000000) aNil))))))) (sRet (eC (.bl false))) sSkip) (sRet (eAnd (eCall qq (aCons (pV 2) (aCons (kJ 1) (aCons (kJ 60) aNil)))) (eCall qq (aCons (pV 3) (aCons (kJ 1) (aCons (kJ 16) aNil)))))))
def BV:F3:=fun3 4 4 GK
def RZ:zn BV 4:=zx
def GL:D3:=(zt (iL (pV 0)) (gT (gsCons (gN 2) (gsCons (gN 3) (gsCons (gN 4) (gsCons (gN 5) (gsCons (gN 6) gsNil)))))) (sSeq (sIf (tNot3 (tE (eCall BU (aCons (pV 2) aNil)))) (BF ("NoName" :Str) (aCons (pE (eC (.str ("the name of a job is no name" :Str)))) aNil)) sSkip) (sSeq (sIf (tE (eOp (qx false) (pV 2) (pV 1))) (GA ("Twice" :Str) (aCons (pV 2) aNil)) sSkip) (sSeq (sIf (tNot3 (tE (eCall BV (aCons (pV 3) (aCons (pV 4) (aCons (pV 5) (aCons (pV 6) aNil))))))) (BF ("NoNumber" :Str) (aCons (pE (eF3 (pE (eC (.str ("the numbers of the job " :Str)))) (pE (eFmt (pV 2))) (pE (eC (.str (" are out of bounds" :Str)))))) aNil)) sSkip) (yW yZ (pV 1) (aCons (pV 2) aNil))))))
def FZ:D3:=(sSeq (sIf (tE (eOp oGt (pE (eB bLen (aCons (pV 0) aNil))) (kJ 12))) (BF ("TooMany" :Str) (aCons (pE (eC (.str ("a load has at most 12 jobs" :Str)))) aNil)) sSkip) (sSeq (sSet 1 (eLst aNil)) (sSeq GL (sRet (eC (.bl true))))))
def BH:F3:=fun3 1 7 FZ
def Sa:zn BH 1:=zx
def IM:D3:=(sRet (eB bMax (aCons (kJ 0) (aCons (pE (eOp zl (pE (eOp ya (pE (eOp zk (pV 0) (kJ 2))) (pE (eOp zk (pV 0) (kJ 1))))) (kJ 1))) aNil))))
def Gd:F3:=fun3 1 1 IM
def Sb:zn Gd 1:=zx
def IQ:D3:=(zt (iL (pE (eFld [("Calendar" :Str)] ("stretches" :Str) (pV 0)))) (gT (gsCons (gN 5) (gsCons (gN 6) gsNil))) (sSeq (sAug 4 BQ (pV 5)) (sIf (tE (eChain oLt qd (pV 1) (pV 4) (pV 2))) (yW yZ (pV 3) (aCons (pV 4) aNil)) sSkip)))
def IT:D3:=(sSeq (sSet 3 (eLst aNil)) (sSeq (sSet 4 (eC (.int 0))) (sSeq IQ (sRetS 3))))
def Ge:F3:=fun3 3 7 IT
def Sd:zn Ge 3:=zx
def IU:D3:=(zt (iL (pV 0)) (gN 3) (sIf (tE (eOp oGt (pE (eCall Gd (aCons (pV 3) aNil))) (kJ 0))) (sSeq (yW BR (pV 2) (aCons (pE (eLst (aCons (pE (eOp zk (pV 3) (kJ 1))) (aCons (pE (eOp zl (pE (eOp zk (pV 3) (kJ 2))) (kJ 1))) aNil)))) aNil)) (yW BR (pV 2) (aCons (pE (CJ ("Calendar" :Str) ("changes" :Str) Ge (pV 1) (aCons (pE (eOp zk (pV 3) (kJ 1))) (aCons (pE (eOp zk (pV 3) (kJ 2))) aNil)))) aNil))) sSkip))
def IV:D3:=(sSeq (sSet 2 (eLst aNil)) (sSeq IU (sSeq (sFz 2) (sRet (eB DU (aCons (pV 2) aNil))))))
def Gf:F3:=fun3 2 4 IV
def Sf:zn Gf 2:=zx
def GM:E3:=(yt 5 [1] (iL (pV 0)) (gT (gsCons (gN 0) (gsCons (gN 1) (gsCons (gN 2) (gsCons (gN 3) (gsCons (gN 4) gsNil)))))) tTru (eChain qd qd (pV 1) (pV 5) (pV 2)))
def IW:D3:=(sRet (eB (bAll fun bs=>bs.any id) (aCons (pE GM) aNil)))
def Gg:F3:=fun3 2 2 IW
def Sg:zn Gg 2:=zx
def IY:D3:=(zt (iL (pE (eFld [("Calendar" :Str)] ("stretches" :Str) (pV 0)))) (gT (gsCons (gN 3) (gsCons (gN 4) gsNil))) (sSeq (sAug 2 BQ (pV 3)) (sIf (tE (eOp oLt (pV 1) (pV 2))) (sRetS 4) sSkip)))
def IZ:D3:=(sSeq (sSet 2 (eC (.int 0))) (sSeq IY (sRet (eFld [("Calendar" :Str)] ("beyond" :Str) (pV 0)))))
def Gh:F3:=fun3 2 5 IZ
def Sh:zn Gh 2:=zx
def Ja:D3:=(zt (HW (aCons (pV 3) (aCons (pE (qo (pV 3) (qp (kJ 1)) qt)) aNil))) (gT (gsCons (gN 4) (gsCons (gN 5) gsNil))) (sIf (tE (eCall Gg (aCons (pV 0) (aCons (pV 4) aNil)))) (yW yZ (pV 2) (aCons (pE (eTup (aCons (pV 4) (aCons (pE (eOp ya (pV 5) (kJ 1))) (aCons (pE (CJ ("Calendar" :Str) ("at" :Str) Gh (pV 1) (aCons (pV 4) aNil))) aNil))))) aNil)) sSkip))
def GN:D3:=(sSeq (sExp (eCall BH (aCons (pV 0) aNil))) (sSeq (sSet 2 (eLst aNil)) (sSeq (sSet 3 (eCall Gf (aCons (pV 0) (aCons (pV 1) aNil)))) (sSeq (sFz 3) (sSeq Ja (sRetS 2))))))
def yR:F3:=fun3 2 6 GN
def Jb:zn yR 2:=zx
def DW:D3:=(sSeq (sSet 2 (eC (.str ("none" :Str)))) (sSeq (BS (qc qD) none yR (aCons (pV 0) (aCons (pV 1) aNil)) [(("TooMany" :Str),none,(sSet 2 (eC (.str ("many" :Str))))),(("Twice" :Str),some 3,(sSet 2 (eOp zl (pE (eC (.str ("twice " :Str)))) (pE (eXn ("Twice" :Str) (pV 3)))))),(("NoName" :Str),none,(sSet 2 (eC (.str ("name" :Str))))),(("NoNumber" :Str),none,(sSet 2 (eC (.str ("number" :Str)))))]) (sRetS 2)))
def yz:F3:=fun3 2 4 DW
def GO:zn yz 2:=zx
def Gi:E3:=(yt 1 [] (qu (aCons (kJ 13) aNil)) (gN 0) tTru (eTup (aCons (pE (eOp zl (pE (eC (.str ("k" :Str)))) (pE (eB FN (aCons (pV 0) aNil))))) (aCons (kJ 0) (aCons (kJ 5) (aCons (kJ 1) (aCons (kJ 1) aNil)))))))
def Jc:D3:=(sSeq (sIf (tE (eOp yh (pE (eCall yz (aCons (pE Gi) (aCons (pV 1) aNil)))) (pE (eC (.str ("many" :Str)))))) (sRet (eC (.bl false))) sSkip) (sSeq (sIf (tOr3 (tE (eOp oLt (pE (eB bLen (aCons (pV 0) aNil))) (kJ 2))) (tE (eOp oGt (pE (eB bLen (aCons (pV 0) aNil))) (kJ 11)))) (sRet (eC (.bl true))) sSkip) (sSeq (sSet 3 (eOp zK (pE (eCall yI (aCons (pV 2) (aCons (kJ 9) aNil)))) (pE (eOp ya (pE (eB bLen (aCons (pV 0) aNil))) (kJ 1))))) (sSeq (sSet 4 (eOp zk (pV 0) (pV 3))) (sSeq (sSet 5 (eOp zl (pV 0) (pE (eLst (aCons (pE (eTup (aCons (pE (eOp zk (pV 4) (kJ 0))) (aCons (kJ 0) (aCons (kJ 5) (aCons (kJ 1) (aCons (kJ 1) aNil))))))) aNil))))) (sSeq (sSet 6 (eOp zl (pE (eOp zl (pE (qo (pV 0) qt (qp (pV 3)))) (pE (eLst (aCons (pE (eTup (aCons (pE (eC (.str ("" :Str)))) (aCons (pE (eOp zk (pV 4) (kJ 1))) (aCons (pE (eOp zk (pV 4) (kJ 2))) (aCons (pE (eOp zk (pV 4) (kJ 3))) (aCons (pE (eOp zk (pV 4) (kJ 4))) aNil))))))) aNil))))) (pE (qo (pV 0) (qp (pE (eOp zl (pV 3) (kJ 1)))) qt)))) (sSeq (sSet 7 (eOp zl (pE (eOp zl (pE (qo (pV 0) qt (qp (pV 3)))) (pE (eLst (aCons (pE (eTup (aCons (pE (eOp zk (pV 4) (kJ 0))) (aCons (pE (eOp zk (pV 4) (kJ 1))) (aCons (pE (eOp zk (pV 4) (kJ 2))) (aCons (kJ 61) (aCons (pE (eOp zk (pV 4) (kJ 4))) aNil))))))) aNil))))) (pE (qo (pV 0) (qp (pE (eOp zl (pV 3) (kJ 1)))) qt)))) (sSeq (sFz 7) (sSeq (sFz 6) (sSeq (sFz 5) (sSeq (sSet 8 (eLst (aCons (pE (eCall yz (aCons (pV 5) (aCons (pV 1) aNil)))) (aCons (pE (eCall yz (aCons (pV 6) (aCons (pV 1) aNil)))) (aCons (pE (eCall yz (aCons (pV 7) (aCons (pV 1) aNil)))) aNil))))) (sRet (eOp yM (pV 8) (pE (eLst (aCons (pE (eOp zl (pE (eC (.str ("twice " :Str)))) (pE (eOp zk (pV 4) (kJ 0))))) (aCons (pE (eC (.str ("name" :Str)))) (aCons (pE (eC (.str ("number" :Str)))) aNil))))))))))))))))))
def DX:F3:=fun3 3 9 Jc
def Si:zn DX 3:=zx
def Jd:D3:=(zt (iLT (pV 2)) (gN 3) (sIf (tOr3 (tNot3 (tE (eB bIsT (aCons (pV 3) (aCons (pE (eC (.ty "int"))) aNil))))) (tE (eB bIsT (aCons (pV 3) (aCons (pE (eC (.ty "bool"))) aNil))))) (sRet (eC (.bl false))) sSkip))
def Je:D3:=(zt (iL (pV 0)) (gN 2) Jd)
def Jf:D3:=(sSeq (sIf (tOr3 (tNot3 (tE (eB bIsT (aCons (pV 0) (aCons (pE (eC (.ty "list"))) aNil))))) (tE (eOp yh (pV 0) (pV 1)))) (sRet (eC (.bl false))) sSkip) (sSeq Je (sRet (eC (.bl true)))))
def AH:F3:=fun3 2 4 Jf
def LU:zn AH 2:=zx
def GP:E3:=(yt 2 [0] (FC (aCons (pV 1) aNil)) (gT (gsCons (gN 0) (gsCons (gN 1) gsNil))) (tAnd3 (tE (eOp qd (pE (eOp zk (pV 2) (kJ 1))) (pE (eOp zk (pV 1) (kJ 0))))) (tE (eOp qd (pE (eOp zk (pV 1) (kJ 1))) (pE (eOp zk (pV 2) (kJ 2)))))) (eV 0))
def Jg:D3:=(sRet GP)
def CU:F3:=fun3 2 2 Jg
def Sj:zn CU 2:=zx
def DY:E3:=(yt 1 [2,1] (qu (aCons (pE (eB bLen (aCons (pV 1) aNil))) aNil)) (gN 0) (tAnd3 (tE (eOp qd (pE (eOp zk (pV 1) (kJ 1))) (pE (eOp zk (pE (eOp zk (pV 2) (pV 0))) (kJ 0))))) (tE (eOp qd (pE (eOp zk (pE (eOp zk (pV 2) (pV 0))) (kJ 1))) (pE (eOp zk (pV 1) (kJ 2)))))) (eV 0))
def DZ:E3:=(yt 1 [1] (iL (pV 3)) (gN 0) tTru (eOp zl (pE (eOp ya (pE (eOp zk (pE (eOp zk (pV 1) (pV 0))) (kJ 1))) (pE (eOp zk (pE (eOp zk (pV 1) (pV 0))) (kJ 0))))) (kJ 1)))
def Jh:D3:=(zt (iL (pV 0)) (gN 2) (sSeq (sSet 3 DY) (sSeq (sSet 4 (eCall CU (aCons (pV 2) (aCons (pE (eB bList (aCons (pV 1) aNil))) aNil)))) (sSeq (sIf (tOr3 (tNot3 (tE (eB bIsT (aCons (pV 4) (aCons (pE (eC (.ty "list"))) aNil))))) (tE (eOp yh (pV 4) (pV 3)))) (sRet (eC (.bl false))) sSkip) (sSeq (sFz 3) (sSeq (sSet 5 (eB bSum (aCons (pE DZ) aNil))) (sIf (tE (eOp yh (pV 5) (pE (eB bMax (aCons (kJ 0) (aCons (pE (eOp zl (pE (eOp ya (pE (eOp zk (pV 2) (kJ 2))) (pE (eOp zk (pV 2) (kJ 1))))) (kJ 1))) aNil)))))) (sRet (eC (.bl false))) sSkip)))))))
def Ji:D3:=(sSeq Jh (sRet (eC (.bl true))))
def CV:F3:=fun3 2 6 Ji
def Sk:zn CV 2:=zx
def Jj:D3:=(sSeq (sSet 1 (eCall CO (aCons (pE (eCall yG (aCons (pV 0) (aCons (kJ 0) aNil)))) aNil))) (sSeq (sSet 2 (eOp zl (kJ 1) (pE (eOp zK (pE (eCall yG (aCons (pV 0) (aCons (kJ 1) aNil)))) (kJ 16))))) (sSeq (sSet 3 (eC (.int 0))) (sSeq (sIf (tE (eOp yh (pV 1) (pE (eLst aNil)))) (sSet 3 (eOp zk (pE (eOp zk (pV 1) (kJ 0))) (kJ 0))) sSkip) (sSeq (sFz 2) (sSeq (sSet 4 (eObj (eNew ("Calendar" :Str) CS (aCons (pE (eB bList (aCons (pV 1) aNil))) (aCons (pV 2) aNil))))) (sSeq (sSet 5 (eCall BG (aCons (pV 0) (aCons (pV 3) aNil)))) (sSeq (sSet 6 (eB bList (aCons (pV 5) aNil))) (sSeq (sFz 2) (sSeq (sFz 1) (sSeq (sFz 5) (sSeq (sSet 7 (eCall CT (aCons (pV 5) (aCons (pV 1) (aCons (pV 2) (aCons (pV 3) aNil)))))) (sSeq (sFz 4) (sSeq (sFz 6) (sSeq (sSet 8 (eGl (eCall yR (aCons (pV 6) (aCons (pV 4) aNil))))) (sSeq (sFz 5) (sSeq (sFz 7) (sSeq (sIf (tOr3 (tNot3 (tE (eCall AH (aCons (pV 8) (aCons (pV 7) aNil))))) (tOr3 (tE (eOp yh (pV 6) (pV 5))) (tNot3 (tE (eCall CV (aCons (pV 5) (aCons (pV 7) aNil))))))) (sRet (eC (.bl false))) sSkip) (sSeq (yW FF (pV 8) aNil) (sSeq (sFz 7) (sSeq (sFz 4) (sSeq (sFz 6) (sSeq (sIf (tNot3 (tE (eCall AH (aCons (pE (eCall yR (aCons (pV 6) (aCons (pV 4) aNil)))) (aCons (pV 7) aNil))))) (sRet (eC (.bl false))) sSkip) (sSeq (sFz 4) (sSeq (sFz 5) (sRet (eCall DX (aCons (pV 5) (aCons (pV 4) (aCons (pE (eCall yG (aCons (pV 0) (aCons (kJ 2) aNil)))) aNil))))))))))))))))))))))))))))))
def f_law:F3:=fun3 1 9 Jj
end My
namespace My
open PySem PySem.Spec PyProof.Rows L2 L3
def zP (i:Nat):Stmt:=PySem.Challenge.pw_dueyard_k14_whole_cells.main.body.getD i (.Pass ⟨0,0,0,0⟩)
abbrev LV:Stmt:=zP 43
def o0:FnScope ["_law_cell","_law_k","_law_number"] ["_law_cell","_law_k"] (zC LV):=zu
abbrev LW:Stmt:=zP 44
def o1:FnScope ["_law_cell","_law_rows_here","_law_k"] ["_law_cell"] (zC LW):=zu
abbrev LX:Stmt:=zP 37
def o2:FnScope ["rows","told","many","machines"] ["rows"] (zC LX):=zu
abbrev LY:Stmt:=zP 38
def o3:FnScope ["rows","rest","told"] ["rows","rest"] (zC LY):=zu
abbrev LZ:Stmt:=zP 10
def o4:FnScope ["thing"] ["thing"] (zC LZ):=zu
abbrev Ma:Stmt:=zP 11
def o5:FnScope ["thing","low","high"] ["thing","low","high"] (zC Ma):=zu
abbrev Mb:Stmt:=zP 33
def o6:FnScope ["thing"] ["thing"] (zC Mb):=zu
abbrev Mc:Stmt:=zP 35
def o7:FnScope ["thing"] ["thing"] (zC Mc):=zu
abbrev Jk:Stmt:=zP 36
def o8:FnScope ["thing"] ["thing"] (zC Jk):=zu
abbrev Md:Stmt:=zP 34
def o9:FnScope ["thing"] ["thing"] (zC Md):=zu
abbrev Me:Stmt:=BM (zP 39) 0
def Sl:FnScope ["self","rows","rest"] ["self","rows","rest"] (zC Me):=zu
abbrev Mf:Stmt:=zP 41
def Sm:FnScope ["_law_script","_law_k"] ["_law_script","_law_k"] (zC Mf):=zu
abbrev Mg:Stmt:=zP 46
def Gj:FnScope ["_law_cell","_law_k","_law_base","_law_first","_law_last"] ["_law_cell","_law_k","_law_base"] (zC Mg):=zu
abbrev Mh:Stmt:=zP 42
def GQ:FnScope ["_law_script","_law_begin","_law_many","_law_found","_law_k","_law_place"] ["_law_script","_law_begin","_law_many"] (zC Mh):=zu
abbrev Jl:Stmt:=zP 47
def GR:FnScope ["_law_script","_law_base","_law_load_here","_law_cell","_law_job_here"] ["_law_script","_law_base"] (zC Jl):=zu
abbrev Jm:Stmt:=zP 48
def Sn:FnScope ["_law_load_here","_law_turn"] ["_law_load_here","_law_turn"] (zC Jm):=zu
abbrev Mi:Stmt:=zP 45
def GS:FnScope ["_law_rows_here","_law_rest","_law_turn","_law_many","_law_machines"] ["_law_rows_here","_law_rest","_law_turn"] (zC Mi):=zu
abbrev Mj:Stmt:=zP 49
def EA:FnScope ["_law_load_here","_law_rows_here","_law_rest","_law_base","_law_found","_law_known","_law_turn","_law_here"] ["_law_load_here","_law_rows_here","_law_rest","_law_base"] (zC Mj):=zu
abbrev Jn:Stmt:=zP 20
def So:FnScope ["thing"] ["thing"] (zC Jn):=zu
abbrev Ml:Stmt:=zP 21
def Sq:FnScope ["first","last","work","breadth"] ["first","last","work","breadth"] (zC Ml):=zu
abbrev Mm:Stmt:=zP 22
def CW:FnScope ["load","names","name","first","last","work","breadth"] ["load"] (zC Mm):=zu
abbrev Mn:Stmt:=zP 23
def Sr:FnScope ["job"] ["job"] (zC Mn):=zu
abbrev Mo:Stmt:=BM (zP 39) 7
def EB:FnScope ["self","first","last","told","stop","many","machines"] ["self","first","last"] (zC Mo):=zu
abbrev Mp:Stmt:=zP 26
def Jo:FnScope ["load","calendar","told","job"] ["load","calendar"] (zC Mp):=zu
abbrev Jp:Stmt:=zP 25
def Ss:FnScope ["load","turn"] ["load","turn"] (zC Jp):=zu
abbrev Mq:Stmt:=BM (zP 39) 3
def Gk:FnScope ["self","turn","stop","many","machines"] ["self","turn"] (zC Mq):=zu
abbrev Mr:Stmt:=zP 27
def Gm:FnScope ["load","calendar","told","turns","start","stop"] ["load","calendar"] (zC Mr):=zu
abbrev Ms:Stmt:=zP 52
def CY:FnScope ["_law_load_here","_law_calendar","_law_word","e"] ["_law_load_here","_law_calendar"] (zC Ms):=zu
abbrev Jq:Stmt:=zP 53
def CZ:FnScope ["_law_load_here","_law_calendar","_law_cell","_law_at_here","_law_one","_law_twice","_law_bare","_law_much","_law_found"] ["_law_load_here","_law_calendar","_law_cell"] (zC Jq):=zu
abbrev Mt:Stmt:=zP 50
def Jr:FnScope ["_law_found","_law_due","_law_row","_law_number"] ["_law_found","_law_due"] (zC Mt):=zu
abbrev Js:Stmt:=zP 28
def Su:FnScope ["job","some"] ["job","some"] (zC Js):=zu
abbrev GT:Stmt:=zP 51
def Gn:FnScope ["_law_load_here","_law_due","_law_job_here","_law_places_here","_law_found","_law_turns"] ["_law_load_here","_law_due"] (zC GT):=zu
abbrev Mu:Stmt:=zP 54
def AI:FnScope ["_law_script","_law_rows_here","_law_rest","_law_base","_law_calendar","_law_load_here","_law_handed","_law_due","_law_found"] ["_law_script"] (zC Mu):=zu
abbrev Mv:Stmt:=BM (zP 7) 0
def Sv:FnScope ["self","name"] ["self","name"] (zC Mv):=zu
set_option genInjectivity false in
structure Txt (K:FG) (mg:Str->Option Value) where
 q0:Addr
 q1:FuncData
 q2:Dfn K mg "_law_mixed" LV ["_law_cell","_law_k"] q0 q1
 q3:Addr
 q4:FuncData
 q5:Dfn K mg "_law_rows" LW ["_law_cell"] q3 q4
 q6:Addr
 q7:FuncData
 q8:Dfn K mg "neighbours_as_one" LX ["rows"] q6 q7
 q9:Addr
 q10:FuncData
 q11:Dfn K mg "kept_rows" LY ["rows","rest"] q9 q10
 q12:Addr
 q13:FuncData
 q14:Dfn K mg "is_whole" LZ ["thing"] q12 q13
 q15:Addr
 q16:FuncData
 q17:Dfn K mg "is_whole_between" Ma ["thing","low","high"] q15 q16
 q18:Addr
 q19:FuncData
 q20:Dfn K mg "is_machines" Mb ["thing"] q18 q19
 q21:Addr
 q22:FuncData
 q23:Dfn K mg "is_calendar_row" Mc ["thing"] q21 q22
 q24:Addr
 q25:FuncData
 q26:Dfn K mg "are_calendar_rows" Jk ["thing"] q24 q25
 q27:Addr
 q28:FuncData
 q29:Dfn K mg "is_rest" Md ["thing"] q27 q28
 q30:Addr
 q31:FuncData
 q32:Dfn K mg "_law_cell_at" Mf ["_law_script","_law_k"] q30 q31
 q33:Addr
 q34:FuncData
 q35:Dfn K mg "_law_job" Mg ["_law_cell","_law_k","_law_base"] q33 q34
 q36:Addr
 q37:FuncData
 q38:Dfn K mg "_law_gathered" Mh ["_law_script","_law_begin","_law_many"] q36 q37
 q39:Addr
 q40:FuncData
 q41:Dfn K mg "_law_load" Jl ["_law_script","_law_base"] q39 q40
 q42:Addr
 q43:FuncData
 q44:Dfn K mg "_law_holders" Jm ["_law_load_here","_law_turn"] q42 q43
 q45:Addr
 q46:FuncData
 q47:Dfn K mg "_law_at" Mi ["_law_rows_here","_law_rest","_law_turn"] q45 q46
 q48:Addr
 q49:FuncData
 q50:Dfn K mg "_law_cells" Mj ["_law_load_here","_law_rows_here","_law_rest","_law_base"] q48 q49
 q51:Addr
 q52:FuncData
 q53:Dfn K mg "is_name" Jn ["thing"] q51 q52
 q54:Addr
 q55:FuncData
 q56:Dfn K mg "are_numbers_of_job" Ml ["first","last","work","breadth"] q54 q55
 q57:Addr
 q58:FuncData
 q59:Dfn K mg "check_load" Mm ["load"] q57 q58
 q60:Addr
 q61:FuncData
 q62:Dfn K mg "turns_of" Mn ["job"] q60 q61
 q63:Addr
 q64:FuncData
 q65:Dfn K mg "borders" Mp ["load","calendar"] q63 q64
 q66:Addr
 q67:FuncData
 q68:Dfn K mg "is_in_a_window" Jp ["load","turn"] q66 q67
 q69:Addr
 q70:FuncData
 q71:Dfn K mg "cells" Mr ["load","calendar"] q69 q70
 q72:Addr
 q73:FuncData
 q74:Dfn K mg "_law_refused" Ms ["_law_load_here","_law_calendar"] q72 q73
 q75:Addr
 q76:FuncData
 q77:Dfn K mg "_law_all_refused" Jq ["_law_load_here","_law_calendar","_law_cell"] q75 q76
 q78:Addr
 q79:FuncData
 q80:Dfn K mg "_law_listed" Mt ["_law_found","_law_due"] q78 q79
 q81:Addr
 q82:FuncData
 q83:Dfn K mg "cells_within" Js ["job","some"] q81 q82
 q84:Addr
 q85:FuncData
 q86:Dfn K mg "_law_places" GT ["_law_load_here","_law_due"] q84 q85
 f_law:Addr
 fd_law:FuncData
 d_law:Dfn K mg "law" Mu ["_law_script"] f_law fd_law
 q87:Addr
 q88:Cls K q87
 q89:mg "Calendar" =some (.ref q87)
 q90:Addr
 q91:FuncData
 q92:DfnM K "__init__" "Calendar.__init__" Me ["self","rows","rest"] q90 q91
 q93:Addr
 q94:FuncData
 q95:DfnM K "changes" "Calendar.changes" Mo ["self","first","last"] q93 q94
 q96:Meth K q87 "changes" q93
 q97:Addr
 q98:FuncData
 q99:DfnM K "at" "Calendar.at" Mq ["self","turn"] q97 q98
 q100:Meth K q87 "at" q97
 q101:Mk K q87 q90
 q102:NoAttr K q87 "stretches"
 q103:NoAttr K q87 "beyond"
 q104:Addr
 q105:mg "YardError" =some (.ref q104)
 q106:Addr
 q107:mg "NoName" =some (.ref q106)
 q108:Addr
 q109:mg "NoNumber" =some (.ref q108)
 q110:Addr
 q111:mg "TooMany" =some (.ref q110)
 q112:Addr
 q113:mg "Twice" =some (.ref q112)
 q114:XCl K mg "NoName" q106
 q115:ExK K q106
 q116:XCl K mg "NoNumber" q108
 q117:ExK K q108
 q118:XCl K mg "TooMany" q110
 q119:ExK K q110
 q120:Addr
 q121:FuncData
 q122:XI K q112 q120
 q123:CB K q104
 q124:Fun K "__init__" "Twice.__init__" Mv q120 q121
 q125:Binds K q121 ["self","name"] []
 q126:PySem.W.exmOne K (.ref q110) (.ref q110)=some true
 q127:PySem.W.kitOne K (.ref q110) (.ref q110)=some true
 q128:PySem.W.exmOne K (.ref q110) (.ref q112)=some false
 q129:PySem.W.kitOne K (.ref q110) (.ref q112)=some false
 q130:PySem.W.exmOne K (.ref q110) (.ref q106)=some false
 q131:PySem.W.kitOne K (.ref q110) (.ref q106)=some false
 q132:PySem.W.exmOne K (.ref q110) (.ref q108)=some false
 q133:PySem.W.kitOne K (.ref q110) (.ref q108)=some false
 q134:PySem.W.exmOne K (.ref q112) (.ref q110)=some false
 q135:PySem.W.kitOne K (.ref q112) (.ref q110)=some false
 q136:PySem.W.exmOne K (.ref q112) (.ref q112)=some true
 q137:PySem.W.kitOne K (.ref q112) (.ref q112)=some true
 q138:PySem.W.exmOne K (.ref q112) (.ref q106)=some false
 q139:PySem.W.kitOne K (.ref q112) (.ref q106)=some false
 q140:PySem.W.exmOne K (.ref q112) (.ref q108)=some false
 q141:PySem.W.kitOne K (.ref q112) (.ref q108)=some false
 q142:PySem.W.exmOne K (.ref q106) (.ref q110)=some false
 q143:PySem.W.kitOne K (.ref q106) (.ref q110)=some false
 q144:PySem.W.exmOne K (.ref q106) (.ref q112)=some false
 q145:PySem.W.kitOne K (.ref q106) (.ref q112)=some false
 q146:PySem.W.exmOne K (.ref q106) (.ref q106)=some true
 q147:PySem.W.kitOne K (.ref q106) (.ref q106)=some true
 q148:PySem.W.exmOne K (.ref q106) (.ref q108)=some false
 q149:PySem.W.kitOne K (.ref q106) (.ref q108)=some false
 q150:PySem.W.exmOne K (.ref q108) (.ref q110)=some false
 q151:PySem.W.kitOne K (.ref q108) (.ref q110)=some false
 q152:PySem.W.exmOne K (.ref q108) (.ref q112)=some false
 q153:PySem.W.kitOne K (.ref q108) (.ref q112)=some false
 q154:PySem.W.exmOne K (.ref q108) (.ref q106)=some false
 q155:PySem.W.kitOne K (.ref q108) (.ref q106)=some false
 q156:PySem.W.exmOne K (.ref q108) (.ref q108)=some true
 q157:PySem.W.kitOne K (.ref q108) (.ref q108)=some true
 q158:PySem.W.exmOne K (.ref q112) (.ref q104)=some true
 q159:PySem.W.kitOne K (.ref q112) (.ref q104)=some true
 q160:mg "all" =none
 q161:mg "any" =none
 q162:mg "bool" =none
 q163:mg "enumerate" =none
 q164:mg "int" =none
 q165:mg "isinstance" =none
 q166:mg "len" =none
 q167:mg "list" =none
 q168:mg "max" =none
 q169:mg "min" =none
 q170:mg "range" =none
 q171:mg "set" =none
 q172:mg "sorted" =none
 q173:mg "str" =none
 q174:mg "sum" =none
 q175:mg "tuple" =none
 q176:mg "zip" =none
 q177:Tok
 q178:mg "LAST_TURN" =some (.int 10000000000 q177)
 q179:Tok
 q180:mg "LETTERS" =some (.str ("abcdefghijklmnopqrstuvwxyz" :Str) q179)
 q181:Tok
 q182:mg "LETTERS_AND_FIGURES" =some (.str ("abcdefghijklmnopqrstuvwxyz0123456789" :Str) q181)
 q183:Tok
 q184:mg "MOST_SIGNS" =some (.int 8 q183)
 q185:Tok
 q186:mg "MOST_JOBS" =some (.int 12 q185)
 q187:Tok
 q188:mg "LATEST_FIRST" =some (.int 1000000000 q187)
 q189:Tok
 q190:mg "MOST_WORK" =some (.int 60 q189)
 q191:Tok
 q192:mg "MOST_BREADTH" =some (.int 16 q191)
 q193:Tok
 q194:mg "MOST_ROWS" =some (.int 16 q193)
 q195:Tok
 q196:mg "MOST_TURNS_OF_ROW" =some (.int 1000000 q195)
 q197:Tok
 q198:mg "MOST_MACHINES" =some (.int 16 q197)
def kx {K:FG} {mg:Str->Option Value} (T:Txt K mg):Kx:=⟨K,fun c=>([(("Calendar" :Str),T.q87),(("YardError" :Str),T.q104),(("NoName" :Str),T.q106),(("NoNumber" :Str),T.q108),(("TooMany" :Str),T.q110),(("Twice" :Str),T.q112)]:List (Str×Addr)).lookup c⟩
def GU {K:FG} {mg:Str->Option Value} (T:Txt K mg):MtL (kx T) qD:=(MtL.cons rfl rfl T.q126 T.q127 T.q119 (MtL.cons rfl rfl T.q128 T.q129 T.q119 (MtL.cons rfl rfl T.q130 T.q131 T.q119 (MtL.cons rfl rfl T.q132 T.q133 T.q119 (MtL.cons rfl rfl T.q134 T.q135 T.q122.toExN.toExK (MtL.cons rfl rfl T.q136 T.q137 T.q122.toExN.toExK (MtL.cons rfl rfl T.q138 T.q139 T.q122.toExN.toExK (MtL.cons rfl rfl T.q140 T.q141 T.q122.toExN.toExK (MtL.cons rfl rfl T.q142 T.q143 T.q115 (MtL.cons rfl rfl T.q144 T.q145 T.q115 (MtL.cons rfl rfl T.q146 T.q147 T.q115 (MtL.cons rfl rfl T.q148 T.q149 T.q115 (MtL.cons rfl rfl T.q150 T.q151 T.q117 (MtL.cons rfl rfl T.q152 T.q153 T.q117 (MtL.cons rfl rfl T.q154 T.q155 T.q117 (MtL.cons rfl rfl T.q156 T.q157 T.q117 (MtL.cons rfl rfl T.q158 T.q159 T.q122.toExN.toExK MtL.nil)))))))))))))))))
section
variable {P:Program} {w:World} {K:FG} {mg:Str->Option Value} {base:Heap}
def Sw (T:Txt K mg):FnOk P w K mg base (XT P w) 1 T.q120 T.q121 ["self","name"] (Im T.q112):=Rk (k:=0) (w0:=("two jobs have the name " :Str)) T.q122 T.q124 Sv (by decide+kernel) fun cdv A outer s H E hr=>(JC (EE (Q8 T.q123 (by rfl) T.q105 (Hw (ED (i:=0) rfl (Or.inl rfl)) (Hw (Rj JB (Lm (ED (i:=1) rfl (Or.inl rfl)))) JQ)))) (Hr (Q9 (ED (i:=0) rfl (Or.inl rfl)) (ED (i:=1) rfl (Or.inl rfl)))))
def qh (T:Txt K mg):FnOk P w K mg base (XT P w) 1 T.q0 T.q1 ["_law_cell","_law_k"] (zm (kx T) 2 yI):=zY T.q2.F o0 fun cdv A outer s H E hr=>by unfold Ir;exact (zq (zL 2 o0.nd (zr yJ yK (za (zr zT zU (za (zr zT zU (zb 0) (za (zr EY EX ze (zb 1))))) ze)) ze)) (zq (zL 2 o0.nd (zr yJ yK (za (zr EY EX (zb 2) (zb 2))) ze)) (zo (zR (zr yJ yK (za (zr EY EX (zb 2) ze)) ze)))))
def Sx (T:Txt K mg):FnOk P w K mg base (XT P w) 2 T.q3 T.q4 ["_law_cell"] (zm (kx T) 1 CO):=zY T.q5.F o1 fun cdv A outer s H E hr=>by unfold Iv Iu;exact (zq (zL 1 o1.nd (yD zg)) (zq (qs (HV rfl T.q170 (zc (za (zr yJ yK (za (zD qg (qh T) hr T.q2 (zc (zb 0) (zc ze zg)))) ze)) zg)) (yB 2 o1.nd) (zo (BB CI rfl Di Dj BL (zb 1) (zc (za (qk (zc (za (zr zT zU ze (za (zr yJ yK (za (zD qg (qh T) hr T.q2 (zc (zb 0) (zc (za (zr zT zU ze (zb 2))) zg)))) ze)))) (zc (za (zr yJ yK (za (zD qg (qh T) hr T.q2 (zc (zb 0) (zc (za (zr zT zU ze (zb 2))) zg)))) ze)) zg)))) zg)))) (zq (zZ (PW.pt (BZ (z4 qL (qP (yH hr)) (z5 _) (zb 1) (za (yD zg))) (BY (z4 CD (CC (yH hr)) (z5 _) (za (zr yJ yK (za (zD qg (qh T) hr T.q2 (zc (zb 0) (zc ze zg)))) ze)) ze)))) (zo (DP (qk (zc (za (zr zT zU (zw (zw (zb 1) ze) ze) (za (zr yJ yK (za (zD qg (qh T) hr T.q2 (zc (zb 0) (zc ze zg)))) ze)))) (zc (zw (zw (zb 1) ze) ze) zg))) (zb 1) ze fun a b c=>DE a (DD b c DI))) yd) (zo (qB (pv 1))))))
def Sy (T:Txt K mg):FnOk P w K mg base (XT P w) 1 T.q6 T.q7 ["rows"] (zm (kx T) 1 FO):=zY T.q8.F o2 fun cdv A outer s H E hr=>by unfold Iy Iw;exact (zq (zL 1 o2.nd (yD zg)) (zq (qs (qI (zb 0)) (AV (n:=2) (BX rfl (yu (yB 2 o2.nd) (yu (yB 3 o2.nd) AU yr) yr)) (yp (yp BD))) (zo (zZ (PW.pt (BZ (KL rfl (zb 1)) (BY (z4 CD (CC (yH hr)) (z5 _) (zw (zw (zb 1) (za (qT ze))) ze) (zb 3))))) (zo (DP (qk (zc (za (zr zT zU (zw (zw (zb 1) (za (qT ze))) ze) (zb 2))) (zc (zb 3) zg))) (zb 1) (za (qT ze)) fun a b c=>DE a (DD b c DI))) (zo (BB CI rfl Di Dj BL (zb 1) (zc (za (qk (zc (zb 2) (zc (zb 3) zg)))) zg)))))) (zo (qB (pv 1)))))
def Sz (T:Txt K mg):FnOk P w K mg base (XT P w) 2 T.q9 T.q10 ["rows","rest"] (zm (kx T) 2 CP):=zY T.q11.F o3 fun cdv A outer s H E hr=>by unfold FP;exact (zq (zL 2 o3.nd (zD RJ (Sy T) hr T.q8 (zc (zb 0) zg))) (zq (zZ (PW.pt (BZ (KL rfl (zb 2)) (BY (z4 CD (CC (yH hr)) (z5 _) (zw (zw (zb 2) (za (qT ze))) ze) (zb 1))))) (zo (La Qr rfl PySem.F.slot_list_pop PySem.F.type_list_pop OJ (zb 2))) yd) (zo (qB (pv 2)))))
def S0 (T:Txt K mg):FnOk P w K mg base (XT P w) 1 T.q12 T.q13 ["thing"] (zm (kx T) 1 FQ):=zY T.q14.F o4 fun cdv A outer s H E hr=>by unfold Iz;exact (zo (zR (ET (ye AY (AZ rfl) T.q165 Ct (zc (zb 0) (zc (za (yq (AN (v:= .ty "int") (by rfl) T.q164 PyProof.Rows.boot_int rfl) fun _ _ _=>.ty _)) zg))) (EU (PL (ye AY (AZ rfl) T.q165 Ct (zc (zb 0) (zc (za (yq (AN (v:= .ty "bool") (by rfl) T.q162 PyProof.Rows.boot_bool rfl) fun _ _ _=>.ty _)) zg))))))))
def DA (T:Txt K mg):FnOk P w K mg base (XT P w) 2 T.q15 T.q16 ["thing","low","high"] (zm (kx T) 3 qq):=zY T.q17.F o5 fun cdv A outer s H E hr=>by unfold GB;exact (zo (zR (ET (zD RL (S0 T) hr T.q14 (zc (zb 0) zg)) (EU (KU qm qm qz qz (zb 1) (zb 0) (zb 2))))))
def S1 (T:Txt K mg):FnOk P w K mg base (XT P w) 3 T.q18 T.q19 ["thing"] (zm (kx T) 1 FR):=zY T.q20.F o6 fun cdv A outer s H E hr=>by unfold IA;exact (zo (zR (zD CQ (DA T) hr T.q17 (zc (zb 0) (zc ze (zc (za (yq (qE (v:= .int 16) (by rfl) T.q198 ⟨_,rfl⟩) fun _ _ _=>.int _)) zg))))))
def S2 (T:Txt K mg):FnOk P w K mg base (XT P w) 4 T.q21 T.q22 ["thing"] (zm (kx T) 1 FS):=zY T.q23.F o7 fun cdv A outer s H E hr=>by unfold IB;exact (zq (zZ (PW.pt (qM (yY (yO (ye AY (AZ rfl) T.q165 Ct (zc (zb 0) (zc (za (yq (AN (v:= .ty "tuple") (by rfl) T.q175 PyProof.Rows.boot_tuple rfl) fun _ _ _=>.ty _)) zg))))) (AC (z4 qL (qP (yH hr)) (z5 _) (za (ye AE (AF rfl) T.q166 Cg (zc (zb 0) zg))) ze)))) (zo (zR yc)) yd) (zo (zR (ET (zD CQ (DA T) hr T.q17 (zc (zw (zb 0) ze) (zc ze (zc (za (yq (qE (v:= .int 1000000) (by rfl) T.q196 ⟨_,rfl⟩) fun _ _ _=>.int _)) zg)))) (EU (zD RM (S1 T) hr T.q20 (zc (zw (zb 0) ze) zg)))))))
def S4 (T:Txt K mg):FnOk P w K mg base (XT P w) 5 T.q24 T.q25 ["thing"] (zm (kx T) 1 FT):=zY T.q26.F o8 fun cdv A outer s H E hr=>by unfold IC GC;exact (zq (zZ (PW.pt (qM (yY (yO (ye AY (AZ rfl) T.q165 Ct (zc (zb 0) (zc (za (yq (AN (v:= .ty "list") (by rfl) T.q167 D4 rfl) fun _ _ _=>.ty _)) zg))))) (AC (z4 G2 Gu (z5 _) (za (ye AE (AF rfl) T.q166 Cg (zc (zb 0) zg))) (za (yq (qE (v:= .int 16) (by rfl) T.q194 ⟨_,rfl⟩) fun _ _ _=>.int _)))))) (zo (zR yc)) yd) (zo (zR (ye HS (KH rfl rfl) T.q160 PyProof.Rows.boot_all (zc (za (CG (loc:=["row"]) (free:=[]) (fr:=[]) rfl (AS (sc:=zC Jk) (N:=(["thing"]:List Str)) rfl rfl (by decide+kernel)) (qI (zb 0)) (fun _ _ _ _ _=>(z9 0 (["row"]:List Str))) (fun _ _ _ _ _=>DN) (fun _ _ _ _ _=>(HK RN (S2 T) (hr.mono (by decide)) (by rfl) T.q23.g T.q23.F.kp T.q23.b K6 (zc (zb 0) zg))))) zg)))))
def S5 (T:Txt K mg):FnOk P w K mg base (XT P w) 3 T.q27 T.q28 ["thing"] (zm (kx T) 1 FU):=zY T.q29.F o9 fun cdv A outer s H E hr=>by unfold ID;exact (zo (zR (zD CQ (DA T) hr T.q17 (zc (zb 0) (zc ze (zc (za (yq (qE (v:= .int 16) (by rfl) T.q198 ⟨_,rfl⟩) fun _ _ _=>.int _)) zg))))))
def S6 (T:Txt K mg):FnOk P w K mg base (XT P w) 6 T.q90 T.q91 ["self","rows","rest"] (zm (kx T) 3 CS):=zY T.q92.F Sl fun cdv A outer s H E hr=>by unfold IE;exact (zq (zZ (PW.pt (qM (yY (yO (zD RO (S4 T) hr T.q26 (zc (zb 1) zg)))) (AC (yY (yO (zD RP (S5 T) hr T.q29 (zc (zb 2) zg))))))) (zo PR) yd) (zq (Lf (Flds.cons rfl T.q88 T.q102 Flds.nil) (zb 0) (zD RK (Sz T) hr T.q11 (zc (zb 1) (zc (zb 2) zg)))) (zo (Lf (Flds.cons rfl T.q88 T.q103 Flds.nil) (zb 0) (r_v (pv 2))))))
def GV (T:Txt K mg):FnOk P w K mg base (XT P w) 1 T.q30 T.q31 ["_law_script","_law_k"] (zm (kx T) 2 yG):=zY T.q32.F Sm fun cdv A outer s H E hr=>by unfold GD;exact (zq (zZ (z4 DK DF (z5 _) (zb 1) (za (ye AE (AF rfl) T.q166 Cg (zc (zb 0) zg)))) (zo (zR (FL (zb 0) (zb 1)))) yd) (zo (zR ER)))
def S7 (T:Txt K mg):FnOk P w K mg base (XT P w) 2 T.q33 T.q34 ["_law_cell","_law_k","_law_base"] (zm (kx T) 3 DV):=zY T.q35.F Gj fun cdv A outer s H E hr=>by unfold GF;exact (zq (zL 3 Gj.nd (ye DM (DH rfl) T.q168 D5 (zc ze (zc (za (zr zT zU (za (zr qR qK (zb 2) ze)) (za (zr yJ yK (za (zD qg (qh T) hr T.q2 (zc (zb 0) (zc ze zg)))) ze)))) zg)))) (zq (zL 4 Gj.nd (ye DM (DH rfl) T.q168 D5 (zc (za (qT ze)) (zc (za (zr zT zU (za (zr qR qK (zb 3) ze)) (za (zr yJ yK (za (zD qg (qh T) hr T.q2 (zc (zb 0) (zc ze zg)))) ze)))) zg)))) (zq (zZ (z4 CD (CC (yH hr)) (z5 _) (za (zr yJ yK (za (zD qg (qh T) hr T.q2 (zc (zb 0) (zc ze zg)))) ze)) ze) (zq (zL 3 Gj.nd (ye DM (DH rfl) T.q168 D5 (zc ze (zc (za (zr qR qK (zb 2) ze)) zg)))) (zo (zL 4 Gj.nd (zr zT zU (za (zr zT zU (zb 2) ze)) (za (zr yJ yK (za (zD qg (qh T) hr T.q2 (zc (zb 0) (zc ze zg)))) ze)))))) yd) (yv 4 (zo (zR (qk (zc (za (zr zT zU (za yT) (za (r_ty LC LB (by rfl) T.q173 Fx (zc (zb 1) zg))))) (zc (zb 3) (zc (zb 4) (zc (za (zr zT zU ze (za (zr yJ yK (za (zD qg (qh T) hr T.q2 (zc (zb 0) (zc ze zg)))) ze)))) (zc (za (zr zT zU ze (za (zr yJ yK (za (zD qg (qh T) hr T.q2 (zc (zb 0) (zc ze zg)))) ze)))) zg))))))))))))
def S8 (T:Txt K mg):FnOk P w K mg base (XT P w) 1 T.q36 T.q37 ["_law_script","_law_begin","_law_many"] (zm (kx T) 3 FV):=zY T.q38.F GQ fun cdv A outer s H E hr=>by unfold IG IF;exact (zq (zL 3 GQ.nd (yD zg)) (zq (qs (KO rfl T.q170 (zc (zb 1) (zc (za (ye Qi (NT rfl) T.q169 PyProof.Rows.boot_min (zc (za (ye AE (AF rfl) T.q166 Cg (zc (zb 0) zg))) (zc ze zg)))) zg))) (yB 4 GQ.nd) (zo (zZ (z4 DK DF (z5 _) (zb 4) (za (zr zT zU (zb 1) (zb 2)))) (zo (BB CI rfl Di Dj BL (zb 3) (zc (zw (zb 0) (zb 4)) zg))) (zq (zL 5 GQ.nd (zr yJ yK (za (zr qR qK (zb 4) (zb 1))) (zb 2))) (zo (DP (zr zT zU (zw (zb 3) (zb 5)) (za (zr EY EX ze (zw (zb 0) (zb 4))))) (zb 3) (zb 5) fun a b c=>DE a (DD b c DI))))))) (zo (qB (pv 3)))))
def S9 (T:Txt K mg):FnOk P w K mg base (XT P w) 3 T.q39 T.q40 ["_law_script","_law_base"] (zm (kx T) 2 BG):=zY T.q41.F GR fun cdv A outer s H E hr=>by unfold FW GG;exact (zq (KR (i:=2) GR.nd rfl (by rfl) (loc:=["_law_k","_law_cell"]) (free:=["_law_base"]) (fr:=[1]) rfl (AS (sc:=zC Jl) (N:=(["_law_script","_law_base","_law_load_here","_law_cell","_law_job_here"]:List Str)) rfl rfl (by decide+kernel)) (KP rfl rfl T.q163 (zc (za (zD RT (S8 T) hr T.q38 (zc (zb 0) (zc ze (zc ze zg))))) zg)) (fun _ _ _ _ _=>(AV (n:=2) (pgT 2 rfl rfl (yu (z9 0 (["_law_k","_law_cell","_law_base"]:List Str)) (yu (z9 1 (["_law_k","_law_cell","_law_base"]:List Str)) AU yr) yr)) (yp (yp BD)))) (fun _ _ _ _ _=>DN) (fun _ _ _ _ _=>(HK RS (S7 T) (hr.mono (by decide)) (by rfl) T.q35.g T.q35.F.kp T.q35.b K6 (zc (zb 1) (zc (zb 0) (zc (zb 2) zg)))))) (zq (zL 3 GR.nd (zD GE (GV T) hr T.q32 (zc (zb 0) (zc ze zg)))) (yv 3 (zq (zZ (PW.pt (BZ (z4 qL (qP (yH hr)) (z5 _) (zb 2) (za (yD zg))) (BY (z4 CD (CC (yH hr)) (z5 _) (za (zr yJ yK (za (zD qg (qh T) hr T.q2 (zc (zb 3) (zc ze zg)))) ze)) ze)))) (zq (zL 4 GR.nd (FL (zb 2) ze)) (yv 3 (zo (DP (qk (zc (zw (zb 4) ze) (zc (zw (zb 4) ze) (zc (za (zr zT zU (za (zr zT zU (zb 1) ze)) (za (zr EY EX (za (zD qg (qh T) hr T.q2 (zc (zb 3) (zc ze zg)))) ze)))) (zc (zw (zb 4) ze) (zc (zw (zb 4) ze) zg)))))) (zb 2) ze fun a b c=>DE a (DD b c DI))))) yd) (zo (qB (pv 2)))))))
def SA (T:Txt K mg):FnOk P w K mg base (XT P w) 1 T.q42 T.q43 ["_law_load_here","_law_turn"] (zm (kx T) 2 FX):=zY T.q44.F Sn fun cdv A outer s H E hr=>by unfold IH GH;exact (zo (zR (CG (loc:=["_law_job_here"]) (free:=["_law_turn"]) (fr:=[1]) rfl (AS (sc:=zC Jm) (N:=(["_law_load_here","_law_turn"]:List Str)) rfl rfl (by decide+kernel)) (qI (zb 0)) (fun _ _ _ _ _=>(z9 0 (["_law_job_here","_law_turn"]:List Str))) (fun _ _ _ _ _=>(HX (HY qm qm qz qz (zw (zb 0) ze) (zb 1) (zw (zb 0) ze)))) (fun _ _ _ _ _=>(FL (zb 0) ze)))))
def SB (T:Txt K mg):FnOk P w K mg base (XT P w) 1 T.q45 T.q46 ["_law_rows_here","_law_rest","_law_turn"] (zm (kx T) 3 FY):=zY T.q47.F GS fun cdv A outer s H E hr=>by unfold IJ II;exact (zq (qs (qI (zb 0)) (AV (n:=2) (BX rfl (yu (yB 3 GS.nd) (yu (yB 4 GS.nd) AU yr) yr)) (yp (yp BD))) (zq (zZ (z4 DK DF (z5 _) (zb 2) (zb 3)) (zo (qB (pv 4))) yd) (zo (zL 2 GS.nd (zr qR qK (zb 2) (zb 3)))))) (zo (qB (pv 1))))
def SC (T:Txt K mg):FnOk P w K mg base (XT P w) 2 T.q48 T.q49 ["_law_load_here","_law_rows_here","_law_rest","_law_base"] (zm (kx T) 4 CT):=zY T.q50.F EA fun cdv A outer s H E hr=>by unfold IL IK;exact (zq (zL 4 EA.nd (yD zg)) (zq (zL 5 EA.nd (yD zg)) (zq (qs (KO rfl T.q170 (zc (za (ye DM (DH rfl) T.q168 D5 (zc ze (zc (za (zr qR qK (zb 3) ze)) zg)))) (zc (za (zr zT zU (zb 3) ze)) zg))) (yB 6 EA.nd) (zq (zL 7 EA.nd (yD (zc (za (zD RV (SA T) hr T.q44 (zc (zb 0) (zc (zb 6) zg)))) (zc (za (zD RW (SB T) hr T.q47 (zc (zb 1) (zc (zb 2) (zc (zb 6) zg))))) zg)))) (zq (zZ (z4 qL (qP (yH hr)) (z5 _) (zw (zb 7) ze) (za (yD zg))) (zo (zZ (z4 CD (CC (yH hr)) (z5 _) (zb 7) (zb 5)) (zo (DP (qk (zc (zw (zw (zb 4) (za (qT ze))) ze) (zc (zb 6) (zc (zw (zb 7) ze) zg)))) (zb 4) (za (qT ze)) fun a b c=>DE a (DD b c DI))) (zo (BB CI rfl Di Dj BL (zb 4) (zc (za (qk (zc (zb 6) (zc (zb 6) (zc (zw (zb 7) ze) zg))))) zg))))) yd) (yv 7 (zo (zL 5 EA.nd (r_v (pv 7)))))))) (zq (zZ (PW.pt (BZ (z4 qL (qP (yH hr)) (z5 _) (zb 0) (za (yD zg))) (BY (z4 Qe NL (z5 _) (zw (zw (zb 0) ze) ze) (za (zr zT zU (zb 3) ze)))))) (zo (DP (qk (zc (zw (zw (zb 4) (za (qT ze))) ze) (zc (zw (zw (zb 0) ze) ze) (zc (zw (zw (zb 4) (za (qT ze))) ze) zg)))) (zb 4) (za (qT ze)) fun a b c=>DE a (DD b c DI))) yd) (zo (qB (pv 4)))))))
def SH (T:Txt K mg):FnOk P w K mg base (XT P w) 1 T.q51 T.q52 ["thing"] (zm (kx T) 1 BU):=zY T.q53.F So fun cdv A outer s H E hr=>by unfold GJ GI;exact (zq (zZ (PW.pt (qM (yY (yO (ye AY (AZ rfl) T.q165 Ct (zc (zb 0) (zc (za (yq (AN (v:= .ty "str") (by rfl) T.q173 Fx rfl) fun _ _ _=>.ty _)) zg))))) (AC (yY (HY qm qm qz qz ze (za (ye AE (AF rfl) T.q166 Cg (zc (zb 0) zg))) (za (yq (qE (v:= .int 8) (by rfl) T.q184 ⟨_,rfl⟩) fun _ _ _=>.int _))))))) (zo (zR yc)) yd) (zo (zR (ET (HI Lg JK (by with_unfolding_all rfl) (zw (zb 0) ze) (za (yq (qE (v:= .str ("abcdefghijklmnopqrstuvwxyz" :Str)) (by rfl) T.q180 ⟨_,rfl⟩) fun _ _ _=>.str _))) (EU (ye HS (KH rfl rfl) T.q160 PyProof.Rows.boot_all (zc (za (CG (loc:=["sign"]) (free:=[]) (fr:=[]) rfl (AS (sc:=zC Jn) (N:=(["thing"]:List Str)) rfl rfl (by decide+kernel)) (Q0 (zb 0)) (fun _ _ _ _ _=>(z9 0 (["sign"]:List Str))) (fun _ _ _ _ _=>DN) (fun _ _ _ _ _=>(HI Lg JK (by with_unfolding_all rfl) (zb 0) (za (yq (qE (v:= .str ("abcdefghijklmnopqrstuvwxyz0123456789" :Str)) (by rfl) T.q182 ⟨_,rfl⟩) fun _ _ _=>.str _)))))) zg)))))))
def SJ (T:Txt K mg):FnOk P w K mg base (XT P w) 3 T.q54 T.q55 ["first","last","work","breadth"] (zm (kx T) 4 BV):=zY T.q56.F Sq fun cdv A outer s H E hr=>by unfold GK;exact (zq (zZ (PW.pt (qM (yY (yO (zD CQ (DA T) hr T.q17 (zc (zb 0) (zc ze (zc (za (yq (qE (v:= .int 1000000000) (by rfl) T.q188 ⟨_,rfl⟩) fun _ _ _=>.int _)) zg)))))) (AC (yY (yO (zD CQ (DA T) hr T.q17 (zc (zb 1) (zc (za (qT ze)) (zc (za (yq (qE (v:= .int 10000000000) (by rfl) T.q178 ⟨_,rfl⟩) fun _ _ _=>.int _)) zg))))))))) (zo (zR yc)) yd) (zo (zR (ET (zD CQ (DA T) hr T.q17 (zc (zb 2) (zc ze (zc (za (yq (qE (v:= .int 60) (by rfl) T.q190 ⟨_,rfl⟩) fun _ _ _=>.int _)) zg)))) (EU (zD CQ (DA T) hr T.q17 (zc (zb 3) (zc ze (zc (za (yq (qE (v:= .int 16) (by rfl) T.q192 ⟨_,rfl⟩) fun _ _ _=>.int _)) zg)))))))))
def SK (T:Txt K mg):FnOk P w K mg base (XT P w) 4 T.q57 T.q58 ["load"] (zm (kx T) 1 BH):=zY T.q59.F CW fun cdv A outer s H E hr=>by unfold FZ GL;exact (zq (zZ (z4 G2 Gu (z5 _) (za (ye AE (AF rfl) T.q166 Cg (zc (zb 0) zg))) (za (yq (qE (v:= .int 12) (by rfl) T.q186 ⟨_,rfl⟩) fun _ _ _=>.int _))) (zo (Ij rfl T.q118 rfl (by rfl) HG (zc (za yT) zg))) yd) (zq (zL 1 CW.nd (yD zg)) (zq (qs (qI (zb 0)) (AV (n:=5) (BX rfl (yu (yB 2 CW.nd) (yu (yB 3 CW.nd) (yu (yB 4 CW.nd) (yu (yB 5 CW.nd) (yu (yB 6 CW.nd) AU yr) yr) yr) yr) yr)) (yp (yp (yp (yp (yp BD)))))) (zq (zZ (yY (yO (zD RY (SH T) hr T.q53 (zc (zb 2) zg)))) (zo (Ij rfl T.q114 rfl (by rfl) HG (zc (za yT) zg))) yd) (zq (zZ (z4 Q3 (Q5 rfl (yH hr)) (by with_unfolding_all rfl) (zb 2) (zb 1)) (zo (Rm rfl T.q122 rfl (by rfl) T.q113 (Sw T) (hr.mono (by decide)) T.q125 rfl Rg (zc (zb 2) zg))) yd) (zq (zZ (yY (yO (zD RZ (SJ T) hr T.q56 (zc (zb 3) (zc (zb 4) (zc (zb 5) (zc (zb 6) zg))))))) (zo (Ij rfl T.q116 rfl (by rfl) HG (zc (za (r_f3 (za yT) (za (QU (zb 2))) (za yT))) zg))) yd) (zo (BB CI rfl Di Dj BL (zb 1) (zc (zb 2) zg))))))) (zo (zR yc)))))
def SL (T:Txt K mg):FnOk P w K mg base (XT P w) 1 T.q60 T.q61 ["job"] (zm (kx T) 1 Gd):=zY T.q62.F Sr fun cdv A outer s H E hr=>by unfold IM;exact (zo (zR (ye DM (DH rfl) T.q168 D5 (zc ze (zc (za (zr zT zU (za (zr qR qK (zw (zb 0) ze) (zw (zb 0) ze))) ze)) zg)))))
def SM (T:Txt K mg):FnOk P w K mg base (XT P w) 1 T.q93 T.q94 ["self","first","last"] (zm (kx T) 3 Ge):=zY T.q95.F EB fun cdv A outer s H E hr=>by unfold IT IQ;exact (zq (zL 3 EB.nd (yD zg)) (zq (zL 4 EB.nd ER) (zq (qs (qI (L0 T.q88 T.q102 (zb 0))) (AV (n:=2) (BX rfl (yu (yB 5 EB.nd) (yu (yB 6 EB.nd) AU yr) yr)) (yp (yp BD))) (zq (Li (i:=4) Lh (fun h=>JG EB.nd rfl (Or.inl rfl) h JH) (zb 5)) (zo (zZ (HY DK qm DF qz (zb 1) (zb 4) (zb 2)) (zo (BB CI rfl Di Dj BL (zb 3) (zc (zb 4) zg))) yd)))) (zo (qB (pv 3))))))
def SN (T:Txt K mg):FnOk P w K mg base (XT P w) 2 T.q63 T.q64 ["load","calendar"] (zm (kx T) 2 Gf):=zY T.q65.F Jo fun cdv A outer s H E hr=>by unfold IV IU;exact (zq (zL 2 Jo.nd (yD zg)) (zq (qs (qI (zb 0)) (yB 3 Jo.nd) (zo (zZ (z4 G2 Gu (z5 _) (za (zD Sb (SL T) hr T.q62 (zc (zb 3) zg))) ze) (zq (BB Lb rfl PySem.F.slot_list_extend PySem.F.type_list_extend Kk (zb 2) (zc (za (yD (zc (zw (zb 3) ze) (zc (za (zr zT zU (zw (zb 3) ze) ze)) zg)))) zg)) (zo (BB Lb rfl PySem.F.slot_list_extend PySem.F.type_list_extend Kk (zb 2) (zc (za (L1 Sd (zb 1) T.q88 T.q96 (SM T) hr T.q95.b (zc (zw (zb 3) ze) (zc (zw (zb 3) ze) zg)))) zg)))) yd))) (yv 2 (zo (zR (RH rfl rfl (by rfl) T.q172 (by rfl) T.q171 (zc (zb 2) zg)))))))
def SO (T:Txt K mg):FnOk P w K mg base (XT P w) 1 T.q66 T.q67 ["load","turn"] (zm (kx T) 2 Gg):=zY T.q68.F Ss fun cdv A outer s H E hr=>by unfold IW GM;exact (zo (zR (ye HS (Qj rfl rfl) T.q161 PyProof.Rows.boot_any (zc (za (CG (loc:=["name","first","last","work","breadth"]) (free:=["turn"]) (fr:=[1]) rfl (AS (sc:=zC Jp) (N:=(["load","turn"]:List Str)) rfl rfl (by decide+kernel)) (qI (zb 0)) (fun _ _ _ _ _=>(AV (n:=5) (pgT 5 rfl rfl (yu (z9 0 (["name","first","last","work","breadth","turn"]:List Str)) (yu (z9 1 (["name","first","last","work","breadth","turn"]:List Str)) (yu (z9 2 (["name","first","last","work","breadth","turn"]:List Str)) (yu (z9 3 (["name","first","last","work","breadth","turn"]:List Str)) (yu (z9 4 (["name","first","last","work","breadth","turn"]:List Str)) AU yr) yr) yr) yr) yr)) (yp (yp (yp (yp (yp BD))))))) (fun _ _ _ _ _=>DN) (fun _ _ _ _ _=>(KU qm qm qz qz (zb 1) (zb 5) (zb 2))))) zg))))
def SQ (T:Txt K mg):FnOk P w K mg base (XT P w) 1 T.q97 T.q98 ["self","turn"] (zm (kx T) 2 Gh):=zY T.q99.F Gk fun cdv A outer s H E hr=>by unfold IZ IY;exact (zq (zL 2 Gk.nd ER) (zq (qs (qI (L0 T.q88 T.q102 (zb 0))) (AV (n:=2) (BX rfl (yu (yB 3 Gk.nd) (yu (yB 4 Gk.nd) AU yr) yr)) (yp (yp BD))) (zq (Li (i:=2) Lh (fun h=>JG Gk.nd rfl (Or.inl rfl) h JH) (zb 3)) (zo (zZ (z4 DK DF (z5 _) (zb 1) (zb 2)) (zo (qB (pv 4))) yd)))) (zo (zR (QL T.q88 T.q103 (zb 0))))))
def Jt (T:Txt K mg):FnOk P w K mg base (XT P w) 5 T.q69 T.q70 ["load","calendar"] (zm (kx T) 2 yR):=zY T.q71.F Gm fun cdv A outer s H E hr=>by unfold GN Ja;exact (zq (PN (zD Sa (SK T) hr T.q59 (zc (zb 0) zg))) (zq (zL 2 Gm.nd (yD zg)) (zq (zL 3 Gm.nd (zD Sf (SN T) hr T.q65 (zc (zb 0) (zc (zb 1) zg)))) (yv 3 (zq (qs (Qp rfl rfl T.q176 (zc (zb 3) (zc (za (r_sl rfl (zb 3) (FE ze) FD)) zg))) (AV (n:=2) (BX rfl (yu (yB 4 Gm.nd) (yu (yB 5 Gm.nd) AU yr) yr)) (yp (yp BD))) (zo (zZ (yO (zD Sg (SO T) hr T.q68 (zc (zb 0) (zc (zb 4) zg)))) (zo (BB CI rfl Di Dj BL (zb 2) (zc (za (qk (zc (zb 4) (zc (za (zr qR qK (zb 5) ze)) (zc (za (L1 Sh (zb 1) T.q88 T.q100 (SQ T) hr T.q99.b (zc (zb 4) zg))) zg))))) zg))) yd))) (zo (qB (pv 2))))))))
def GW (T:Txt K mg):FnOk P w K mg base (XT P w) 6 T.q72 T.q73 ["_law_load_here","_law_calendar"] (zm (kx T) 2 yz):=zY T.q74.F CY fun cdv A outer s H E hr=>by unfold DW;exact (zq (zL 2 CY.nd yT) (zq (Rb Jb (Jt T) (hr.mono (by decide)) (by rfl) T.q71.g T.q71.F.kp T.q71.b (fun _ _=>(zc (zb 0) (zc (zb 1) zg))) rfl rfl rfl (Ik rfl ((GU T).ok rfl) (by rfl) T.q111 (fun _=>(zo (zL 2 CY.nd yT))) (Rc (i:=3) rfl ((GU T).ok rfl) CY.nd rfl (Or.inl rfl) rfl (by rfl) T.q113 (fun _=>(zo (zL 2 CY.nd (zr zT zU (za yT) (za (r_xn rfl T.q122.toExN (zb 3))))))) (Ik rfl ((GU T).ok rfl) (by rfl) T.q107 (fun _=>(zo (zL 2 CY.nd yT))) (Ik rfl ((GU T).ok rfl) (by rfl) T.q109 (fun _=>(zo (zL 2 CY.nd yT))) QZ))))) (zo (qB (pv 2)))))
def SR (T:Txt K mg):FnOk P w K mg base (XT P w) 7 T.q75 T.q76 ["_law_load_here","_law_calendar","_law_cell"] (zm (kx T) 3 DX):=zY T.q77.F CZ fun cdv A outer s H E hr=>by unfold Jc Gi;exact (zq (zZ (z4 qL (qP (yH hr)) (z5 _) (za (zD GO (GW T) hr T.q74 (zc (za (CG (loc:=["_law_k"]) (free:=[]) (fr:=[]) rfl (AS (sc:=zC Jq) (N:=(["_law_load_here","_law_calendar","_law_cell","_law_at_here","_law_one","_law_twice","_law_bare","_law_much","_law_found"]:List Str)) rfl rfl (by decide+kernel)) (HV rfl T.q170 (zc ze zg)) (fun _ _ _ _ _=>(z9 0 (["_law_k"]:List Str))) (fun _ _ _ _ _=>DN) (fun _ _ _ _ _=>(qk (zc (za (zr zT zU (za yT) (za (r_ty LC LB (by rfl) T.q173 Fx (zc (zb 0) zg))))) (zc ze (zc ze (zc ze (zc ze zg))))))))) (zc (zb 1) zg)))) (za yT)) (zo (zR yc)) yd) (zq (zZ (PW.pt (qM (z4 DK DF (z5 _) (za (ye AE (AF rfl) T.q166 Cg (zc (zb 0) zg))) ze) (AC (z4 G2 Gu (z5 _) (za (ye AE (AF rfl) T.q166 Cg (zc (zb 0) zg))) ze)))) (zo (zR yc)) yd) (zq (zL 3 CZ.nd (zr yJ yK (za (zD qg (qh T) hr T.q2 (zc (zb 2) (zc ze zg)))) (za (zr qR qK (za (ye AE (AF rfl) T.q166 Cg (zc (zb 0) zg))) ze)))) (zq (zL 4 CZ.nd (FL (zb 0) (zb 3))) (zq (zL 5 CZ.nd (zr zT zU (zb 0) (za (yD (zc (za (qk (zc (zw (zb 4) ze) (zc ze (zc ze (zc ze (zc ze zg))))))) zg))))) (zq (zL 6 CZ.nd (zr zT zU (za (zr zT zU (za (r_sl rfl (zb 0) FD (FE (zb 3)))) (za (yD (zc (za (qk (zc (za yT) (zc (zw (zb 4) ze) (zc (zw (zb 4) ze) (zc (zw (zb 4) ze) (zc (zw (zb 4) ze) zg))))))) zg))))) (za (r_sl rfl (zb 0) (FE (za (zr zT zU (zb 3) ze))) FD)))) (zq (zL 7 CZ.nd (zr zT zU (za (zr zT zU (za (r_sl rfl (zb 0) FD (FE (zb 3)))) (za (yD (zc (za (qk (zc (zw (zb 4) ze) (zc (zw (zb 4) ze) (zc (zw (zb 4) ze) (zc ze (zc (zw (zb 4) ze) zg))))))) zg))))) (za (r_sl rfl (zb 0) (FE (za (zr zT zU (zb 3) ze))) FD)))) (yv 7 (yv 6 (yv 5 (zq (zL 8 CZ.nd (yD (zc (za (zD GO (GW T) hr T.q74 (zc (zb 5) (zc (zb 1) zg)))) (zc (za (zD GO (GW T) hr T.q74 (zc (zb 6) (zc (zb 1) zg)))) (zc (za (zD GO (GW T) hr T.q74 (zc (zb 7) (zc (zb 1) zg)))) zg))))) (zo (zR (HI CD (CC (yH hr)) (z5 _) (zb 8) (za (yD (zc (za (zr zT zU (za yT) (zw (zb 4) ze))) (zc (za yT) (zc (za yT) zg)))))))))))))))))))
def Mw (T:Txt K mg):FnOk P w K mg base (XT P w) 1 T.q78 T.q79 ["_law_found","_law_due"] (zm (kx T) 2 AH):=zY T.q80.F Jr fun cdv A outer s H E hr=>by unfold Jf Je Jd;exact (zq (zZ (PW.pt (qM (yY (yO (ye AY (AZ rfl) T.q165 Ct (zc (zb 0) (zc (za (yq (AN (v:= .ty "list") (by rfl) T.q167 D4 rfl) fun _ _ _=>.ty _)) zg))))) (AC (z4 qL (qP (yH hr)) (z5 _) (zb 0) (zb 1))))) (zo (zR yc)) yd) (zq (qs (qI (zb 0)) (yB 2 Jr.nd) (zo (qs (QY rfl (zb 2)) (yB 3 Jr.nd) (zo (zZ (PW.pt (qM (yY (yO (ye AY (AZ rfl) T.q165 Ct (zc (zb 3) (zc (za (yq (AN (v:= .ty "int") (by rfl) T.q164 PyProof.Rows.boot_int rfl) fun _ _ _=>.ty _)) zg))))) (AC (yO (ye AY (AZ rfl) T.q165 Ct (zc (zb 3) (zc (za (yq (AN (v:= .ty "bool") (by rfl) T.q162 PyProof.Rows.boot_bool rfl) fun _ _ _=>.ty _)) zg))))))) (zo (zR yc)) yd))))) (zo (zR yc))))
def SS (T:Txt K mg):FnOk P w K mg base (XT P w) 1 T.q81 T.q82 ["job","some"] (zm (kx T) 2 CU):=zY T.q83.F Su fun cdv A outer s H E hr=>by unfold Jg GP;exact (zo (zR (CG (loc:=["place","cell"]) (free:=["job"]) (fr:=[0]) rfl (AS (sc:=zC Js) (N:=(["job","some"]:List Str)) rfl rfl (by decide+kernel)) (KP rfl rfl T.q163 (zc (zb 1) zg)) (fun _ _ _ _ _=>(AV (n:=2) (pgT 2 rfl rfl (yu (z9 0 (["place","cell","job"]:List Str)) (yu (z9 1 (["place","cell","job"]:List Str)) AU yr) yr)) (yp (yp BD)))) (fun _ _ _ _ _=>(HX (PW.pt (BZ (z4 qm qz (z5 _) (zw (zb 2) ze) (zw (zb 1) ze)) (BY (z4 qm qz (z5 _) (zw (zb 1) ze) (zw (zb 2) ze))))))) (fun _ _ _ _ _=>(r_v (pv 0))))))
def SU (T:Txt K mg):FnOk P w K mg base (XT P w) 2 T.q84 T.q85 ["_law_load_here","_law_due"] (zm (kx T) 2 CV):=zY T.q86.F Gn fun cdv A outer s H E hr=>by unfold Ji Jh DZ DY;exact (zq (qs (qI (zb 0)) (HJ (Hs (i:=2) Gn.nd rfl (Or.inr rfl))) (zq (KR (i:=3) Gn.nd rfl (by rfl) (loc:=["_law_k"]) (free:=["_law_job_here","_law_due"]) (fr:=[2,1]) rfl (AS (sc:=zC GT) (N:=(["_law_load_here","_law_due","_law_job_here","_law_places_here","_law_found","_law_turns"]:List Str)) rfl rfl (by decide+kernel)) (HV rfl T.q170 (zc (za (ye AE (AF rfl) T.q166 Cg (zc (zb 1) zg))) zg)) (fun _ _ _ _ _=>(z9 0 (["_law_k","_law_job_here","_law_due"]:List Str))) (fun _ _ _ _ _=>(HX (PW.pt (BZ (z4 qm qz (z5 _) (zw (zb 1) ze) (zw (zw (zb 2) (zb 0)) ze)) (BY (z4 qm qz (z5 _) (zw (zw (zb 2) (zb 0)) ze) (zw (zb 1) ze))))))) (fun _ _ _ _ _=>(r_v (pv 0)))) (zq (zL 4 Gn.nd (zD Sj (SS T) hr T.q83 (zc (zb 2) (zc (za (r_ty HP (HU rfl) (by rfl) T.q167 D4 (zc (zb 1) zg))) zg)))) (zq (zZ (PW.pt (qM (yY (yO (ye AY (AZ rfl) T.q165 Ct (zc (zb 4) (zc (za (yq (AN (v:= .ty "list") (by rfl) T.q167 D4 rfl) fun _ _ _=>.ty _)) zg))))) (AC (z4 qL (qP (yH hr)) (z5 _) (zb 4) (zb 3))))) (zo (zR yc)) yd) (yv 3 (zq (zL 5 Gn.nd (ye Qk (Ql rfl rfl) T.q174 PyProof.Rows.boot_sum (zc (za (CG (loc:=["_law_k"]) (free:=["_law_due"]) (fr:=[1]) rfl (AS (sc:=zC GT) (N:=(["_law_load_here","_law_due","_law_job_here","_law_places_here","_law_found","_law_turns"]:List Str)) rfl rfl (by decide+kernel)) (qI (zb 3)) (fun _ _ _ _ _=>(z9 0 (["_law_k","_law_due"]:List Str))) (fun _ _ _ _ _=>DN) (fun _ _ _ _ _=>(zr zT zU (za (zr qR qK (zw (zw (zb 1) (zb 0)) ze) (zw (zw (zb 1) (zb 0)) ze))) ze)))) zg))) (zo (zZ (z4 qL (qP (yH hr)) (z5 _) (zb 5) (za (ye DM (DH rfl) T.q168 D5 (zc ze (zc (za (zr zT zU (za (zr qR qK (zw (zb 2) ze) (zw (zb 2) ze))) ze)) zg))))) (zo (zR yc)) yd)))))))) (zo (zR yc)))
def G_law (T:Txt K mg):FnOk P w K mg base (XT P w) 8 T.f_law T.fd_law ["_law_script"] (zm (kx T) 1 f_law):=zY T.d_law.F AI fun cdv A outer s H E hr=>by unfold Jj;exact (zq (zL 1 AI.nd (zD RI (Sx T) hr T.q5 (zc (za (zD GE (GV T) hr T.q32 (zc (zb 0) (zc ze zg)))) zg))) (zq (zL 2 AI.nd (zr zT zU ze (za (zr yJ yK (za (zD GE (GV T) hr T.q32 (zc (zb 0) (zc ze zg)))) ze)))) (zq (zL 3 AI.nd ER) (zq (zZ (z4 qL (qP (yH hr)) (z5 _) (zb 1) (za (yD zg))) (zo (zL 3 AI.nd (FL (zw (zb 1) ze) ze))) yd) (yv 2 (zq (zL 4 AI.nd (Qz (Qx rfl RQ T.q101 (S6 T) (hr.mono (by decide)) (by rfl) T.q89 T.q92.b HE (zc (za (r_ty HP (HU rfl) (by rfl) T.q167 D4 (zc (zb 1) zg))) (zc (zb 2) zg))))) (zq (zL 5 AI.nd (zD RU (S9 T) hr T.q41 (zc (zb 0) (zc (zb 3) zg)))) (zq (zL 6 AI.nd (r_ty HP (HU rfl) (by rfl) T.q167 D4 (zc (zb 5) zg))) (yv 2 (yv 1 (yv 5 (zq (zL 7 AI.nd (zD RX (SC T) hr T.q50 (zc (zb 5) (zc (zb 1) (zc (zb 2) (zc (zb 3) zg)))))) (yv 4 (yv 6 (zq (zL 8 AI.nd (r_gl (zD Jb (Jt T) hr T.q71 (zc (zb 6) (zc (zb 4) zg))))) (yv 5 (yv 7 (zq (zZ (PW.pt (qM (yY (yO (zD LU (Mw T) hr T.q80 (zc (zb 8) (zc (zb 7) zg))))) (qM (z4 qL (qP (yH hr)) (z5 _) (zb 6) (zb 5)) (AC (yY (yO (zD Sk (SU T) hr T.q86 (zc (zb 5) (zc (zb 7) zg))))))))) (zo (zR yc)) yd) (zq (La Qs rfl PySem.F.slot_list_clear PySem.F.type_list_clear OK (zb 8)) (yv 7 (yv 4 (yv 6 (zq (zZ (yY (yO (zD LU (Mw T) hr T.q80 (zc (za (zD Jb (Jt T) hr T.q71 (zc (zb 6) (zc (zb 4) zg)))) (zc (zb 7) zg))))) (zo (zR yc)) yd) (yv 4 (yv 5 (zo (zR (zD Si (SR T) hr T.q77 (zc (zb 5) (zc (zb 4) (zc (za (zD GE (GV T) hr T.q32 (zc (zb 0) (zc ze zg)))) zg)))))))))))))))))))))))))))))))
end
end My
def PySem.W.Fast.tw14598715356260435866:Nat:=0
def PySem.W.Fast.tw7238046018651277534:Nat:=0
def PySem.W.Fast.tw6534874000650894987:Nat:=0
def PySem.W.Fast.tw10544295344006241723:Nat:=0
def PySem.W.Fast.tw3182386257043530798:Nat:=0
def PySem.W.Fast.tw12329155263669439519:Nat:=0
def PySem.W.Fast.tw3677632882827384062:Nat:=0
def PySem.W.Fast.tw13388153557339397715:Nat:=0
def PySem.W.Fast.tw16205993139258394665:Nat:=0
def PySem.W.Fast.tw12186927737360925045:Nat:=0
def PySem.W.Fast.tw13256641116850012859:Nat:=0
def PySem.W.Fast.tw4069818745696331118:Nat:=0
def PySem.W.Fast.tw12309487429465621764:Nat:=0
def PySem.W.Fast.tw10594365738534580157:Nat:=0
def PySem.W.Fast.tw1319192029097868252:Nat:=0
def PySem.W.Fast.tw10178460254095656201:Nat:=0
def PySem.W.Fast.tw17846797487192150033:Nat:=0
def PySem.W.Fast.tw12196925527506493495:Nat:=0
def PySem.W.Fast.tw8565733149115213228:Nat:=0
def PySem.W.Fast.tw6667695353286145696:Nat:=0
def PySem.W.Fast.tw11488531227469871684:Nat:=0
def PySem.W.Fast.tw5822829993140332335:Nat:=0
def PySem.W.Fast.tw1992449075930466090:Nat:=0
def PySem.W.Fast.tw5262731503136342451:Nat:=0
def PySem.W.Fast.tw5173889594236819067:Nat:=0
def PySem.W.Fast.tw10531621347620151403:Nat:=0
def PySem.W.Fast.tw12411216588197505872:Nat:=0
def PySem.W.Fast.tw17495155262278756735:Nat:=0
def PySem.W.Fast.tw8988036822726370258:Nat:=0
def PySem.W.Fast.tw3510150404263062150:Nat:=0
def PySem.W.Fast.tw17754248650196429969:Nat:=0
def PySem.W.Fast.tw15384950449994896258:Nat:=0
namespace My
open PySem PySem.W L2 L3
def ask:L4.Ask where
 law:=54
 at_:=[2,3,15,17,18,20,21,22,29,30,31,32,35,42,43,44,47,54,55,56,59,66,67,68,71,78,79,80,83,90,92,93,95,96,97,98,99,102,104,105,107,108,109,111,112,114,115,116,119,120,121,123,124,126,127,128,130,131,133,134,135,137,138,140,141,142,145,146,147,149,150,152,153,154,156,157,159,160,161,164,165,166,168,169,171,172,173,175,176,178,179,180,182,183,185,186,187,190,191,192,194,195,197,198,199,201,202,204,205,213,215,216,218,219,220,222,223,225,226,227,229,230,232,233,234,236,237,239,240,241,243,244,246,247,248,250,251,253,254,255,257,258,260,261,262,264,265,267,268,269,271,272,274,275,276,278,279,281,282,283,285,286,288,289,290,291,292,293,294,297,299,300,302,303,304,306,307,309,310,311,313,314,316,317,318,320,321,323,324,325,327,328,330,331,332,334,335,337,338,339,342,343,344,347,348,349,351,352,354,355,356,358,359,361,362,363,366,367,368,370,371,373,374,375,378,379,380,382,383,385,386]
 defs:=[("_law_mixed",43),("_law_rows",44),("neighbours_as_one",37),("kept_rows",38),("is_whole",10),("is_whole_between",11),("is_machines",33),("is_calendar_row",35),("are_calendar_rows",36),("is_rest",34),("_law_cell_at",41),("_law_job",46),("_law_gathered",42),("_law_load",47),("_law_holders",48),("_law_at",45),("_law_cells",49),("is_name",20),("are_numbers_of_job",21),("check_load",22),("turns_of",23),("borders",26),("is_in_a_window",25),("cells",27),("_law_refused",52),("_law_all_refused",53),("_law_listed",50),("cells_within",28),("_law_places",51),("law",54)]
 cls:=[("Calendar",39,[("__init__","Calendar.__init__",0),("changes","Calendar.changes",7),("at","Calendar.at",3)],["stretches","beyond"])]
 bare:=["all","any","bool","enumerate","int","isinstance","len","list","max","min","range","set","sorted","str","sum","tuple","zip"]
 con:=[("LAST_TURN",.int 10000000000),("LETTERS",.str ("abcdefghijklmnopqrstuvwxyz" :Str)),("LETTERS_AND_FIGURES",.str ("abcdefghijklmnopqrstuvwxyz0123456789" :Str)),("MOST_SIGNS",.int 8),("MOST_JOBS",.int 12),("LATEST_FIRST",.int 1000000000),("MOST_WORK",.int 60),("MOST_BREADTH",.int 16),("MOST_ROWS",.int 16),("MOST_TURNS_OF_ROW",.int 1000000),("MOST_MACHINES",.int 16)]
 exc:=[("YardError",false),("NoName",true),("NoNumber",true),("TooMany",true),("Twice",false)]
 tab:=[("TooMany","TooMany",true),("TooMany","Twice",false),("TooMany","NoName",false),("TooMany","NoNumber",false),("Twice","TooMany",false),("Twice","Twice",true),("Twice","NoName",false),("Twice","NoNumber",false),("NoName","TooMany",false),("NoName","Twice",false),("NoName","NoName",true),("NoName","NoNumber",false),("NoNumber","TooMany",false),("NoNumber","Twice",false),("NoNumber","NoName",false),("NoNumber","NoNumber",true),("Twice","YardError",true)]
 exi:=[("Twice","YardError",7,"Twice.__init__",0)]
end My
lay_quick L4.claim L4.goal
open PySem PySem.W in
def My.one1:∀(w:World) (os:OsState),PySem.W.Fast.tw6268680626415656479 My.ask 20000 PySem.Challenge.pw_dueyard_k14_whole_cells w os=PySem.W.Fast.tw12952061662341455360 My.ask PySem.Challenge.pw_dueyard_k14_whole_cells:=by
 intro w os
 kernel_rfl
open PySem PySem.W in
def My.one:∀(w:World) (os:OsState),L4.claim My.ask 20000 PySem.Challenge.pw_dueyard_k14_whole_cells w os=L4.goal My.ask PySem.Challenge.pw_dueyard_k14_whole_cells:=by
 rw[PySem.W.Fast.te6268680626415656479,PySem.W.Fast.te12952061662341455360];exact My.one1
namespace L3
open PySem L2
def ev:type_of% (zd (zd (zd (zd (zd (zd @L3.fun3.eq_1 (zd @L3.start3.eq_1 @L3.sSeq.eq_1)) (zd (zd @L3.sSet.eq_1 @L3.sRet.eq_1) (zd @L3.sRetS.eq_1 @L3.sRetN.eq_1))) (zd (zd (zd @L3.sIf.eq_1 @L3.sExp.eq_1) (zd @L3.sFz.eq_1 @L3.sAug.eq_1)) (zd (zd @L3.sAsg.eq_1 @L3.sSkip.eq_1) (zd @L3.sNever.eq_1 @L3.gN.eq_1)))) (zd (zd (zd @L3.eV.eq_1 (zd @L3.eC.eq_1 @L3.pV.eq_1)) (zd (zd @L3.pE.eq_1 @L3.eOp.eq_1) (zd @L3.eNeg.eq_1 @L3.eNot.eq_1))) (zd (zd (zd @L3.eAnd.eq_1 @L3.eOr.eq_1) (zd @L3.eIf.eq_1 @L3.eChain.eq_1)) (zd (zd @L3.oEq_int @L3.oNe_int) (zd @L3.nx_ite @L3.rt_ite))))) (zd (zd (zd (zd @L3.ok_ite (zd @L3.cons_ite @L3.some_ite)) (zd (zd @L3.v_ite @L3.int_ite) (zd @L3.bl_ite @ite_self.{1}))) (zd (zd (zd @Bq @and_true) (zd @true_and @and_self)) (zd (zd @L3.eTup.eq_1 @L3.eLst.eq_1) (zd @L3.aCons.eq_1 @L3.aNil.eq_1)))) (zd (zd (zd (zd @L3.eB.eq_1 @L3.isa.eq_1) (zd @L3.eCall.eq_1 @L3.tE.eq_1)) (zd (zd @L3.tP.eq_1 @L3.tTru.eq_1) (zd @L3.tAnd3.eq_1 @L3.tOr3.eq_1))) (zd (zd (zd @L3.tNot3.eq_1 @L3.mtO.eq_1) (zd @L3.at0 @L3.at1)) (zd (zd @L3.at2 @L3.at3) (zd @L3.at4 @Al.{0,0})))))) (zd (zd (zd (zd (zd @A4.{0,0} (zd @Az.{0} @Dx.{0})) (zd (zd @Fg.{0} @Cn.{0}) (zd @Bt.{0} @Fc.{0}))) (zd (zd (zd @Fe.{0} @List.getElem?_nil.{0}) (zd @List.set_cons_zero.{0} @List.set_cons_succ.{0})) (zd (zd @Bh.{0,0} @Option.map_none.{0,0}) (zd @Fd.{0,0} @Nat.zero_add)))) (zd (zd (zd @ite_true.{1} (zd @ite_false.{1} @By.{1})) (zd (zd @Bx.{1} @Bool.not_true) (zd @Bool.not_false @decide_true))) (zd (zd (zd @decide_false @Dk) (zd @Cv @Bool.or_true)) (zd (zd @Ds @Bool.true_or) (zd @Ef @Ex.{0}))))) (zd (zd (zd (zd @or_true (zd @true_or @Bb)) (zd (zd @false_or @L3.oAdd_int) (zd @L3.oAddI_int @L3.oSub_int))) (zd (zd (zd @L3.oMul_int @L3.oDiv_int) (zd @L3.oMod_int @L3.oShr_int)) (zd (zd @L3.oPow_int @L3.oAndI_int) (zd @L3.oLt_int @L3.oLe_int)))) (zd (zd (zd (zd @L3.oGt_int @L3.oGe_int) (zd @L3.oIx_tup @L3.oIx_lst)) (zd (zd @L3.oIx_scr @L3.sMt_ap) (zd @L3.mAppend_ok @L3.sz0))) (zd (zd (zd @L3.sz1 @L3.sz2) (zd @L3.sz3 @L3.sz4)) (zd (zd @L3.sz5 @L3.gb.eq_1) (zd @Int.cast_ofNat_Int @Dw))))))):=(zd (zd (zd (zd (zd (zd @L3.fun3.eq_1 (zd @L3.start3.eq_1 @L3.sSeq.eq_1)) (zd (zd @L3.sSet.eq_1 @L3.sRet.eq_1) (zd @L3.sRetS.eq_1 @L3.sRetN.eq_1))) (zd (zd (zd @L3.sIf.eq_1 @L3.sExp.eq_1) (zd @L3.sFz.eq_1 @L3.sAug.eq_1)) (zd (zd @L3.sAsg.eq_1 @L3.sSkip.eq_1) (zd @L3.sNever.eq_1 @L3.gN.eq_1)))) (zd (zd (zd @L3.eV.eq_1 (zd @L3.eC.eq_1 @L3.pV.eq_1)) (zd (zd @L3.pE.eq_1 @L3.eOp.eq_1) (zd @L3.eNeg.eq_1 @L3.eNot.eq_1))) (zd (zd (zd @L3.eAnd.eq_1 @L3.eOr.eq_1) (zd @L3.eIf.eq_1 @L3.eChain.eq_1)) (zd (zd @L3.oEq_int @L3.oNe_int) (zd @L3.nx_ite @L3.rt_ite))))) (zd (zd (zd (zd @L3.ok_ite (zd @L3.cons_ite @L3.some_ite)) (zd (zd @L3.v_ite @L3.int_ite) (zd @L3.bl_ite @ite_self.{1}))) (zd (zd (zd @Bq @and_true) (zd @true_and @and_self)) (zd (zd @L3.eTup.eq_1 @L3.eLst.eq_1) (zd @L3.aCons.eq_1 @L3.aNil.eq_1)))) (zd (zd (zd (zd @L3.eB.eq_1 @L3.isa.eq_1) (zd @L3.eCall.eq_1 @L3.tE.eq_1)) (zd (zd @L3.tP.eq_1 @L3.tTru.eq_1) (zd @L3.tAnd3.eq_1 @L3.tOr3.eq_1))) (zd (zd (zd @L3.tNot3.eq_1 @L3.mtO.eq_1) (zd @L3.at0 @L3.at1)) (zd (zd @L3.at2 @L3.at3) (zd @L3.at4 @Al.{0,0})))))) (zd (zd (zd (zd (zd @A4.{0,0} (zd @Az.{0} @Dx.{0})) (zd (zd @Fg.{0} @Cn.{0}) (zd @Bt.{0} @Fc.{0}))) (zd (zd (zd @Fe.{0} @List.getElem?_nil.{0}) (zd @List.set_cons_zero.{0} @List.set_cons_succ.{0})) (zd (zd @Bh.{0,0} @Option.map_none.{0,0}) (zd @Fd.{0,0} @Nat.zero_add)))) (zd (zd (zd @ite_true.{1} (zd @ite_false.{1} @By.{1})) (zd (zd @Bx.{1} @Bool.not_true) (zd @Bool.not_false @decide_true))) (zd (zd (zd @decide_false @Dk) (zd @Cv @Bool.or_true)) (zd (zd @Ds @Bool.true_or) (zd @Ef @Ex.{0}))))) (zd (zd (zd (zd @or_true (zd @true_or @Bb)) (zd (zd @false_or @L3.oAdd_int) (zd @L3.oAddI_int @L3.oSub_int))) (zd (zd (zd @L3.oMul_int @L3.oDiv_int) (zd @L3.oMod_int @L3.oShr_int)) (zd (zd @L3.oPow_int @L3.oAndI_int) (zd @L3.oLt_int @L3.oLe_int)))) (zd (zd (zd (zd @L3.oGt_int @L3.oGe_int) (zd @L3.oIx_tup @L3.oIx_lst)) (zd (zd @L3.oIx_scr @L3.sMt_ap) (zd @L3.mAppend_ok @L3.sz0))) (zd (zd (zd @L3.sz1 @L3.sz2) (zd @L3.sz3 @L3.sz4)) (zd (zd @L3.sz5 @L3.gb.eq_1) (zd @Int.cast_ofNat_Int @Dw)))))))
end L3
local macro_rules | `(tactic| simp![$xs,*] $[$l]?)=> `(tactic| simp only[L3.kJ,L3.fun3,L3.start3,L3.O3.res,L3.sSeq,L3.sSet,L3.sRet,L3.sRetS,L3.sRetN,L3.sIf,L3.sExp,L3.sFz,L3.sAug,L3.sAsg,L3.sSkip,L3.sNever,L3.gN,L3.gT,L3.gL,L3.gsCons,L3.gsNil,L3.eV,L3.eC,L3.pV,L3.pE,L3.eOp,L3.eNeg,L3.eNot,L3.eAnd,L3.eOr,L3.eIf,L3.eChain,L3.oEq_int,L3.oNe_int,L3.nx_ite,L3.rt_ite,L3.ok_ite,L3.cons_ite,L3.some_ite,L3.v_ite,L3.int_ite,L3.bl_ite,ite_self,Bq,and_true,true_and,and_self,L3.oIsN,L3.eTup,L3.eLst,L3.aCons,L3.aNil,L3.vals3,L3.eB,L3.bLen,L3.bMax,L3.bMin,L3.bMin3,L3.bInt,L3.bList,L3.bIsT,L3.ty3,L3.isa,L3.eCall,L3.opt,L3.Res.bind,L3.Res.bindS,L3.Vl.fz,L3.C3.fz,L3.tE,L3.tP,L3.tru3,L3.tTru,L3.tAnd3,L3.tOr3,L3.tNot3,L3.rdl,L3.rdm,L3.mtO,L3.wr3,L3.at0,L3.at1,L3.at2,L3.at3,L3.at4,Al,A4,Az,Dx,List.replicate,Fg,Cn,Bt,Fc,Fe,List.getElem?_nil,List.set_cons_zero,List.set_cons_succ,Bh,Option.map_none,Fd,Nat.reduceSub,Nat.reduceAdd,Nat.reduceLT,Nat.reduceEqDiff,Nat.reduceLeDiff,Nat.zero_add,reduceIte,ite_true,ite_false,By,Bx,Bool.not_true,Bool.not_false,decide_true,decide_false,Dk,Cv,Bool.or_true,Ds,Bool.true_or,Ef,Ex,String.reduceEq,String.reduceBEq,or_true,true_or,Bb,false_or,reduceCtorEq,Int.reduceLT,Int.reduceLE,Int.reduceNeg,L3.oAdd_int,L3.oAddI_int,L3.oSub_int,L3.oMul_int,L3.oDiv_int,L3.oMod_int,L3.oShr_int,L3.oPow_int,L3.oAndI_int,L3.oLt_int,L3.oLe_int,L3.oGt_int,L3.oGe_int,L3.oIx_tup,L3.oIx_lst,L3.oIx_scr,L3.sMt_ap,L3.mAppend_ok,L3.sz0,L3.sz1,L3.sz2,L3.sz3,L3.sz4,L3.sz5,L3.gb,Int.cast_ofNat_Int,Int.reduceEq,Dw,$xs,*] $[$l]?)
namespace L3
open PySem L2
def tx (l:List Nat):Str:=⟨l.toArray⟩
def DB (l:List Nat):(tx l).length=l.length:=by simp[tx,Str.length]
def Ju (l:List Nat):(tx l).cps.toList=l:=by simp[tx]
def SV (z:Str):tx z.cps.toList=z:=by simp[tx]
def Mx {a b:List Nat} (h:tx a=tx b):a=b:=by have:=congrArg (fun z:Str=>z.cps.toList) h;simpa[tx] using this
def SW (a b:List Nat):tx a++tx b=tx (a++b):=by
 show Str.append (tx a) (tx b)=_;simp[Str.append,tx]
def yX (c:Nat):Bool:=decide (97<=c) && decide (c<=122)
def fig (c:Nat):Bool:=decide (48<=c) && decide (c<=57)
def abc:List Nat:=[97,98,99,100,101,102,103,104,105,106,107,108,109,110,111,112,113,114,115,116,117,118,119,120,121,122]
def abc9:List Nat:=abc++[48,49,50,51,52,53,54,55,56,57]
def SX:("abcdefghijklmnopqrstuvwxyz" :Str)=tx abc:=by decide+kernel
def SY:("abcdefghijklmnopqrstuvwxyz0123456789" :Str)=tx abc9:=by decide+kernel
def SZ (c:Nat):decide (c∈abc)=yX c:=by
 by_cases h:c<128
 .exact (by decide+kernel:∀c,c<128->decide (c∈abc)=yX c) c h
 .rw[Be fun m=>h ((by decide+kernel:∀x∈abc,x<128) c m)]
  unfold yX;rw[Be (p:=c<=122) (by lia),Ew]
def Ta (c:Nat):decide (c∈abc9)=(yX c || fig c):=by
 by_cases h:c<128
 .exact (by decide+kernel:∀c,c<128->decide (c∈abc9)=(yX c || fig c)) c h
 .rw[Be fun m=>h ((by decide+kernel:∀x∈abc9,x<128) c m)]
  unfold yX fig;rw[Be (p:=c<=122) (by lia),Be (p:=c<=57) (by lia),Ew,Ew,Ds]
def Mz {s:S3} {h:H3} {c:Nat} {l:List Nat}:oInS false s h (.x (.str (tx [c]))) (.x (.str (tx l)))=some (.v (.bl (decide (c∈l)))):=by
 unfold oInS;simp only[Dw,Bx];rw[show (tx [c])=⟨#[c]⟩ from rfl,PC,Ju]
def Tb {s:S3} {h:H3} {l:List Nat} {i:Int} (hl:l.length<=sizeLine):zk s h (.x (.str (tx l))) (.x (.int i))=(atI l i).map fun c=>.v (.str (tx [c])):=by
 unfold zk qe oIxT oIxL oIxS;simp only[rdl,DB,Ju,Aa hl];cases atI l i<;>rfl
def GX {s:S3} {h:H3} {a b:List Nat} (hl:a.length+b.length<=sizeLine):zl s h (.x (.str (tx a))) (.x (.str (tx b)))=some (.v (.str (tx (a++b)))):=by
 unfold zl qe BQ oI EW;simp only[DB,Aa hl,SW]
def isN (l:List Nat):Bool:=decide (1<=l.length) && decide (l.length<=8) && (yX (l.headD 0) && l.all fun c=>yX c || fig c)
def Tc {n:Nat} {fr:List Nat} {a:A3} {g:G3} {e:E3} {s:S3} {h:H3} {j:Int} (I:S3->Prop) (f:Nat->V3) (ea:a s h=.ok [.x (.int j)] h) (hj: -1000000<=j/\j<=1000000)
  (h0:I (z8 n fr s)) (step:∀(k:Nat) s,k<j.toNat->I s->∃s1 r,g (.int (k:Int)) s=some s1/\I s1/\e s1 h=.ok r h/\r.fz=some (f k)):
  yt n fr (qu a) g tTru e s h=.ok (.m (.lst ((List.range j.toNat).map f))) h:=by
 have hj2: -(2 ^ 62)<=j/\j<2 ^ 62:=by lia
 have:=G7 (ok:=fun _=>True) (g:=g) (e:=e) (h:=h) I (fun k:Nat=>V3.int (0+(k:Int))) f trivial (l:=List.range j.toNat) (by rw[B9];have:=yb;lia)
  (fun k s hk hI=>by rw[Int.zero_add];exact step k s (by simpa using hk) hI) h0
 unfold yt qu;simp only[ea,Res.bind,Aa hj2,this]
def Jv {α:Type} {n:Nat} {fr:List Nat} {p:P3} {g:G3} {e:E3} {s:S3} {h:H3} {x:V3} {ok:H3->Prop} {enc:α->V3} {l:List α} (I:S3->Prop) (f:α->V3) (ep:p s h=.ok (.x x) h)
  (hw:yn h x=some (l.map enc,ok)) (hl:l.length<=1000000) (h0:I (z8 n fr s)) (step:∀a s,a∈l->I s->∃s1 r,g (enc a) s=some s1/\I s1/\e s1 h=.ok r h/\r.fz=some (f a)):
  yt n fr (iL p) g tTru e s h=.ok (.m (.lst (l.map f))) h:=by
 have:=G7 (ok:=ok) (g:=g) (e:=e) (h:=h) I enc f (AW hw).1 (l:=l) (by have:=yb;lia) step h0
 unfold yt iL;simp only[ep,Res.bind,hw,this]
def Td {α:Type} {n:Nat} {fr:List Nat} {p:P3} {g:G3} {c:T3} {e:E3} {s:S3} {h:H3} {x:V3} {ok:H3->Prop} {enc:α->V3} {l:List α} (I:S3->Prop) (q:α->Bool) (f:α->V3) (ep:p s h=.ok (.x x) h)
  (hw:yn h x=some (l.map enc,ok)) (hl:l.length<=1000000) (h0:I (z8 n fr s)) (step:∀a s,a∈l->I s->∃s1,g (enc a) s=some s1/\I s1/\c s1 h=.ok (q a) h/\(q a=true->∃r,e s1 h=.ok r h/\r.fz=some (f a))):
  yt n fr (iL p) g c e s h=.ok (.m (.lst ((l.filter q).map f))) h:=by
 have:=L5 (ok:=ok) (g:=g) (c:=c) (e:=e) (h:=h) I enc q f (AW hw).1 (l:=l) (by have:=yb;lia) step h0
 unfold yt iL;simp only[ep,Res.bind,hw,this]
def Te {n:Nat} {fr:List Nat} {p:P3} {g:G3} {e:E3} {s:S3} {h:H3} {l:List Nat} (I:S3->Prop) (f:Nat->V3) (ep:p s h=.ok (.x (.str (tx l))) h) (hl:l.length<=1000000)
  (h0:I (z8 n fr s)) (step:∀a s,a∈l->I s->∃s1 r,g (.str (tx [a])) s=some s1/\I s1/\e s1 h=.ok r h/\r.fz=some (f a)):
  yt n fr (iS p) g tTru e s h=.ok (.m (.lst (l.map f))) h:=by
 have:=G7 (ok:=fun _=>True) (g:=g) (e:=e) (h:=h) I (fun a:Nat=>V3.str (tx [a])) f trivial (l:=l) (by have:=yb;lia) step h0
 have hl2:(tx l).length<=sizeLine:=by rw[DB];have:=yb;lia
 unfold yt iS;simp only[ep,Res.bind,Aa hl2,Ju]
 first
  | (simp only[show ∀a:Nat,(⟨#[a]⟩:Str)=tx [a] from fun _=>rfl,this])
  | (rw[show (l.map fun c=>V3.str ⟨#[c]⟩)=l.map (fun a=>V3.str (tx [a])) from rfl,this])
def Tf {s:S3} {h:H3} {ns:List Int} (hs:AX 0 ns=true):bSum s h [.x (.lst (ns.map .int))]=some (.v (.int ns.sum)):=by
 unfold bSum;simp only[rdl,L6,Aa hs]
def Jw {s:S3} {h:H3} {q:List Bool->Bool} {bs:List Bool}:bAll q s h [.x (.lst (bs.map .bl))]=some (.v (.bl (q bs))):=by
 unfold bAll;simp only[rdl,QN,Bh]
def M3 {α:Type} {it:I3} {g:G3} {b:D3} {s:S3} {h:H3} {its:List V3} {ok:H3->Prop} {enc:α->V3} {l:List α} (ei:it s h=.ok ⟨its,l.map enc,ok⟩ h) (hok:ok h)
  (I:Nat->S3->Prop) (h0:I 0 s) (step:∀(i:Nat) a s,l[i]? =some a->I i s->∃s2,gb g b (enc a) s h=.nx s2 h/\I (i+1) s2):∃s',zt it g b s h=.nx s' h/\I l.length s':=by
 have hf:zt it g b s h=zJ ok g b (l.map enc) s h:=by
  unfold zt;simp only[ei,Res.bindS]
 rw[hf];have:=Ih (ok:=ok) (g:=g) (b:=b) (h:=h) I (xs:=l.map enc) (s:=s) hok h0 fun i x s hx hI=>by
  rw[A9]at hx;obtain⟨a,ha,rfl⟩:=Ei.1 hx;obtain⟨s2,e,hI2⟩:=step i a s ha hI;unfold gb at e;cases q:g (enc a) s with
  |none=>rw[q]at e;cases e
  |some s1=>rw[q]at e;exact⟨s1,s2,rfl,e,hI2⟩
 rwa [Ah]at this
def it_R {Q:Res Vl->Prop} {α:Type} {it:I3} {g:G3} {b r:D3} {s:S3} {h:H3} {its:List V3} {ok:H3->Prop} {enc:α->V3} {l:List α} (ei:it s h=.ok ⟨its,l.map enc,ok⟩ h) (hok:ok h)
  (I:Nat->S3->Prop) (h0:I 0 s) (step:∀(i:Nat) a s,l[i]? =some a->I i s->∃s2,gb g b (enc a) s h=.nx s2 h/\I (i+1) s2) (k:∀s',I l.length s'->Q ((r s' h).res)):Q ((sSeq (zt it g b) r s h).res):=by
 obtain⟨s',e,hI⟩:=M3 ei hok I h0 step;rw[BE e];exact k s' hI
def Tg {a:A3} {s:S3} {h:H3} {j:Int} (ea:a s h=.ok [.x (.int j)] h) (hj: -(2 ^ 62)<=j/\j<2 ^ 62):qu a s h=.ok ⟨[],(List.range j.toNat).map fun k=>.int ((k:Nat):Int),fun _=>True⟩ h:=by
 unfold qu;simp only[ea,Res.bind,Aa hj,Int.zero_add]
def Is (h:H3) (r:Vl) (R:Res Vl):Prop:=R=.ok r h
def Yes (R:Res Vl):Prop:=∃h',R=.ok (.v (.bl true)) h'
def DC {s:S3} {h:H3} {i:Nat} {j:Int}:zk s h (.s i) (.x (.int j))=match s[i]? with
  |some (some (.m (.lst xs)))=>(atI xs j).map .v
  |_=>none:=by
 unfold zk qe oIxT oIxL oIxS;simp only[rdl];generalize s[i]? =o
 match o with
 |none=>rfl
 |some none=>rfl
 |some (some (.v _))=>rfl
 |some (some (.m (.lst xs)))=>simp only[];cases atI xs j<;>rfl
 |some (some (.m (.dK _)))=>rfl
 |some (some (.m (.dT _)))=>rfl
 |some (some (.m (.ins _ _)))=>rfl
 |some (some (.m .dead))=>rfl
def GY {s:S3} {h:H3} {i:Nat} {l:List V3} {x:V3} (e:s[i]? =some (some (.m (.lst (l++[x]))))):zk s h (.s i) (.x (.int (-1)))=some (.v x):=by
 rw[DC,e];simp only[atm1,Bh]
def GZ {α β:Type} {l:List α} {f:α->β}:(l.map f).isEmpty=l.isEmpty:=by cases l<;>rfl
def Ha {α:Type} {l:List α} {n:Nat} {x y:α} (h:l.length=n):(l++[x]).set n y=l++[y]:=by
 subst h;rw[List.set_append_right _ _ (Ag _)];simp
def BI {α:Type} {l:List α} {i:Nat} {a:α} (h:l[i]? =some a):l.drop i=a::l.drop (i+1):=by
 obtain⟨hi,rfl⟩:=An.1 h;exact E9 hi
def M4 {α:Type} {l:List α} {i:Nat} {a:α} (h:l[i]? =some a):l.take (i+1)=l.take i++[a]:=by rw[Ez,h];rfl
def M5 {α:Type} (xs:List α) (k:Nat):zV xs (some (k:Int)) none=xs.drop k:=by
 unfold zV HT.sIx;have h1: ¬((k:Int)<0):=by lia
 simp only[Ac h1,Cs]
 by_cases hk:k<=xs.length
 .rw[Nat.min_eq_left hk,List.take_of_length_le (by simp)]
 .rw[Nat.min_eq_right (by lia),Cf,List.drop_eq_nil_of_le (by lia)];simp
def Th {α:Type} (xs:List α) (k:Nat):zV xs none (some (k:Int))=xs.take k:=by
 unfold zV HT.sIx;have h1: ¬((k:Int)<0):=by lia
 simp only[Ac h1,Cs,El,Nat.sub_zero];rw[List.take_eq_take_iff];lia
theorem Jx {f:V3->V3->Option Bool}:∀{xs:List V3},(∀x∈xs,f x x=some true)->yf f xs xs=some true
 | [],_=>rfl
 |x::r,h=>by simp only[yf,h x Aj,Jx (xs:=r) fun y hy=>h y (Am _ hy),Bool.and_self]
def M6 {s:S3} {h:H3} {f g:Rf} {xs:List V3} (hf:rdm s h f=some xs) (hg:rdm s h g=some xs) (hx:∀x∈xs,zA h 8 x x=some true):qf s h f g=some true:=by
 unfold qf;rw[hf,hg];simp only[By,Jx hx]
def Jy {s:S3} {h:H3} {f g:Rf} {xs:List V3} (hf:rdm s h f=some xs) (hg:rdm s h g=some xs) (hx:∀x∈xs,zA h 8 x x=some true):yh s h f g=some (.v (.bl false)):=by
 unfold yh;rw[M6 hf hg hx];rfl
def Ti {s:S3} {h:H3} {f g:Rf} {xs:List V3} (hf:rdm s h f=some xs) (hg:rdm s h g=some xs) (hx:∀x∈xs,zA h 8 x x=some true):yM s h f g=some (.v (.bl true)):=by
 unfold yM;rw[M6 hf hg hx];rfl
def M7 {h:H3} {n:Nat} {xs:List V3} (hx:∀x∈xs,zA h n x x=some true):zA h (n+1) (.tup xs) (.tup xs)=some true:=by
 simp only[zA,z7];rw[Jx hx];simp
def Tj {s:S3} {h:H3} {i j:Str}:yh s h (.x (.str i)) (.x (.str j))=some (.v (.bl (!decide (i=j)))):=by
 unfold yh qf;simp only[rdm,rdl,DS,Bh]
def Tn {s:S3} {h:H3} {f:Rf} {xs:List V3} (hf:rdm s h f=some xs):qf s h f (.x (.lst []))=some xs.isEmpty:=by
 unfold qf;rw[hf];simp only[rdm,rdl];cases xs<;>rfl
def BW {s:S3} {h:H3} {f:Rf} {xs:List V3} (hf:rdm s h f=some xs):yh s h f (.x (.lst []))=some (.v (.bl !xs.isEmpty)):=by unfold yh;rw[Tn hf];rfl
def Gp {s:S3} {h:H3} {xs:List V3}:rdm s h (.x (.lst xs))=some xs:=rfl
def Jz {s:S3} {h:H3} {i:Nat} {xs:List V3} (e:s[i]? =some (some (.m (.lst xs)))):rdm s h (.s i)=some xs:=by
 show rdl s h (.s i)=_;simp only[rdl,e]
def To {s:S3} {h:H3} {n:Nat} {xs:List V3} (e:h[n]? =some (.lst xs)):rdm s h (.x (.loc n))=some xs:=by
 show rdl s h (.x (.loc n))=_;simp only[rdl,e]
def IsL (h:H3) (x:V3) (xs:List V3):Prop:=x=.lst xs\/∃n,x=.loc n/\h[n]? =some (.lst xs)
def IsL.walk {h:H3} {x:V3} {xs:List V3} (l:IsL h x xs):∃ok,yn h x=some (xs,ok):=by
 rcases l with rfl|⟨n,rfl,e⟩
 .exact⟨_,rfl⟩
 .exact⟨_,by simp only[yn,e];rfl⟩
theorem IsL.rdm {s:S3} {h:H3} {x:V3} {xs:List V3} (l:IsL h x xs):rdm s h (.x x)=some xs:=by
 rcases l with rfl|⟨n,rfl,e⟩
 .exact Gp
 .exact To e
def Tp {Q:Res Vl->Prop} {ok:H3->Prop} {g:G3} {b r:D3} {α:Type} {enc:α->V3} {l:List α} (I:Nat->S3->H3->Prop) (hok:∀i s h,I i s h->ok h)
  (step:∀(i:Nat) a s h,l[i]? =some a->I i s h->(∃s2 h2,(gb g b (enc a) s h=.nx s2 h2\/gb g b (enc a) s h=.ct s2 h2)/\I (i+1) s2 h2)\/(∃v h2,gb g b (enc a) s h=.rt v h2/\Q (.ok v h2))\/∃s2 h2,gb g b (enc a) s h=.bk s2 h2/\Q ((r s2 h2).res))
  (k:∀s' h',I l.length s' h'->Q ((r s' h').res)):∀(n i:Nat) (s:S3) (h:H3),l.length-i=n->i<=l.length->I i s h->Q ((match zJ ok g b ((l.drop i).map enc) s h with | .nx s h=>r s h|o=>o).res):=by
 intro n
 induction n with
 |zero=>
  intro i s h hn hi hI;have e:i=l.length:=by lia
  subst e;rw[Cf,A4];unfold zJ;rw[Aa (hok _ _ _ hI)];exact k s h hI
 |succ n ih=>
  intro i s h hn hi hI;have hil:i<l.length:=by lia
  rw[BI (zH hil),Al];unfold zJ;rw[Aa (hok _ _ _ hI)];have st:=step i l[i] s h (zH hil) hI;unfold gb at st;cases q:g (enc l[i]) s with
  |none=>simp only[q]at st;rcases st with ⟨_,_,z|z,_⟩|⟨_,_,z,_⟩|⟨_,_,z,_⟩<;>cases z
  |some s1=>
   simp only[q]at st ⊢
   rcases st with ⟨s2,h2,z|z,hI2⟩|⟨v,h2,z,hq⟩|⟨s2,h2,z,hq⟩
   .rw[z];exact ih (i+1) s2 h2 (by lia) hil hI2
   .rw[z];exact ih (i+1) s2 h2 (by lia) hil hI2
   .rw[z];exact hq
   .rw[z];exact hq
def it_E {Q:Res Vl->Prop} {α:Type} {it:I3} {g:G3} {b r:D3} {s:S3} {h:H3} {its:List V3} {ok:H3->Prop} {enc:α->V3} {l:List α} (ei:it s h=.ok ⟨its,l.map enc,ok⟩ h)
  (I:Nat->S3->H3->Prop) (hok:∀i s h,I i s h->ok h) (h0:I 0 s h)
  (step:∀(i:Nat) a s h,l[i]? =some a->I i s h->(∃s2 h2,(gb g b (enc a) s h=.nx s2 h2\/gb g b (enc a) s h=.ct s2 h2)/\I (i+1) s2 h2)\/(∃v h2,gb g b (enc a) s h=.rt v h2/\Q (.ok v h2))\/∃s2 h2,gb g b (enc a) s h=.bk s2 h2/\Q ((r s2 h2).res))
  (k:∀s' h',I l.length s' h'->Q ((r s' h').res)):Q ((sSeq (zt it g b) r s h).res):=by
 have:=Tp (Q:=Q) (r:=r) I hok step k _ 0 s h rfl (Bw _) h0;unfold sSeq zt;simp only[ei,Res.bindS];rw[El]at this;exact this
def Tq {p:P3} {s:S3} {h:H3} {x:V3} {xs:List V3} {ok:H3->Prop} (ep:p s h=.ok (.x x) h) (hw:yn h x=some (xs,ok)):iL p s h=.ok ⟨[x],xs,ok⟩ h:=by
 unfold iL;simp only[ep,Res.bind,hw]
end L3
namespace My
open PySem L2 L3
abbrev zf (p:Int×Int):V3:= .tup [.int p.1,.int p.2]
def mix1 (c k:Int):Int:=(c+7919*k+11)%2147483647
def mix2 (c k:Int):Int:=mix1 c k*mix1 c k%2147483629
def zM (c k:Int):Int:=mix2 c k*48271%2147483647
def M8 (c k:Int):0<=mix1 c k/\mix1 c k<2147483647:=⟨Int.emod_nonneg _ (by decide),Int.emod_lt_of_pos _ (by decide)⟩
def Tr (c k:Int):0<=zM c k/\zM c k<2147483647:=⟨Int.emod_nonneg _ (by decide),Int.emod_lt_of_pos _ (by decide)⟩
def BJ (c k:Int) (h:H3):yI [.int c,.int k] h=.ok (.v (.int (zM c k))) h:=by
 have c1:CMul 7919 k:=Ii ⟨by decide,by decide⟩
 have c3:CMul (mix1 c k) (mix1 c k):=Ii ⟨by have:=M8 c k;lia,by have:=M8 c k;lia⟩
 have c4:CMul (mix2 c k) 48271:=L8 ⟨by decide,by decide⟩
 have m1:(c+7919*k+11)%2147483647=mix1 c k:=rfl;have m2:mix1 c k*mix1 c k%2147483629=mix2 c k:=rfl;simp![yI,Ir,c1,c3,c4,m1,m2,zM]
def cell (ns:List Int) (k:Nat):Int:=(ns[k]?).getD 0
def Hb (ns:List Int) (k:Nat) (h:H3):yG [.scr ns,.int k] h=.ok (.v (.int (cell ns k))) h:=by
 by_cases hk:k<ns.length
 .have hl:((k:Int)<(ns.length:Int)):=by lia
  have ha:atI (ns.map V3.int) (k:Int)=some (.int ns[k]):=AA (j:=k) (by rw[A9,zH hk];rfl)
  have hc:cell ns k=ns[k]:=by unfold cell;rw[zH hk];rfl
  simp![yG,GD,Ah,hl,ha,hc]
 .have hl: ¬((k:Int)<(ns.length:Int)):=by lia
  have hc:cell ns k=0:=by unfold cell;rw[Eg (by lia)];rfl
  simp![yG,GD,Ah,hl,hc]
def at0 {α:Type} {x:α} {l:List α}:atI (x::l) 0=some x:=by
 have e:yA (x::l).length 0=some 0:=by unfold yA;simp
 unfold atI;rw[e];rfl
def ix0 {n:Nat}:yA (n+1) 0=some 0:=by unfold yA;rw[Aa (by decide),Aa (by lia)];rfl
structure RowsOk (rows:List (Int×Int)):Prop where
 len:rows.length<=6
 one:∀p∈rows,1<=p.1/\p.1<=900009/\0<=p.2/\p.2<=16
 few:∀p∈rows.drop 1,p.1<=9
def Ts (h:H3) (R:Res Vl):Prop:=∃rows,R=.ok (.m (.lst (rows.map zf))) h/\RowsOk rows
def Tt (c:Int) (h:H3):Ts h (CO [.int c] h):=by
 unfold CO Iv Iu
 refine y9 rfl ?_
 refine zG (by (simp![])<;>rfl) ?_
 have hr: -(2 ^ 62)<=zM c 1%7/\zM c 1%7<2 ^ 62:=by lia
 refine QT (j:=zM c 1%7) (by (simp![BJ])<;>rfl) hr (fun i s=> ∃rows x2,s=[some (.v (.int c)),some (.m (.lst (rows.map zf))),x2]/\rows.length=i/\∀p∈rows,1<=p.1/\p.1<=9/\0<=p.2/\p.2<=16) ⟨[],_,rfl,rfl,by simp⟩ ?_ ?_
 .rintro i s hi ⟨rows,x2,rfl,hl,hp⟩
  have c3:rows.length<sizeLine:=by have:=yb;lia
  generalize ((i:Nat):Int)=I at*
  refine⟨_,by (simp![BJ,c3,Ah])<;>rfl,?_⟩
  refine⟨rows++[(_,_)],_,by rw[Ax];rfl,by simp[hl],?_⟩
  intro p hp2;rw[Aw,As]at hp2
  rcases hp2 with hp2|rfl
  .exact hp p hp2
  .refine⟨?_,?_,?_,?_⟩<;>(dsimp only;lia)
 .rintro s ⟨rows,x2,rfl,hl,hp⟩
  have hl6:rows.length<=6:=by lia
  have w0:∀p∈rows,1<=p.1/\p.1<=900009/\0<=p.2/\p.2<=16:=fun p hm=>by have:=hp p hm;lia
  cases rows with
  |nil=>
   have on:=fun (a b:Option Vl)=>BW (s:=[a,some (.m (.lst [])),b]) (h:=h) (f:= .s 1) (xs:=[]) rfl
   have e1:([]:List V3).isEmpty=true:=rfl;exact⟨[],by (simp![A4,on,e1])<;>rfl,⟨by simp,by simp,by simp⟩⟩
  |cons p r=>
   have on:=fun (a b:Option Vl)=>BW (s:=[a,some (.m (.lst (zf p::r.map zf))),b]) (h:=h) (f:= .s 1) (xs:=zf p::r.map zf) rfl
   have e1:(zf p::r.map zf).isEmpty=false:=rfl;rw[Al]
   by_cases hm:zM c 2%2=0
   .have ox:∀(a b:Option Vl),zk [a,some (.m (.lst (zf p::r.map zf))),b] h (.s 1) (.x (.int 0))=some (.v (zf p)):=fun a b=>by
     rw[DC];show (atI (zf p::r.map zf) 0).map Vl.v=_;rw[at0];rfl
    have r1:∀(a b:Option Vl),rdm [a,some (.m (.lst (zf p::r.map zf))),b] h (.s 1)=some (zf p::r.map zf):=fun _ _=>rfl
    have st:∀y:V3,(zf p::r.map zf).set 0 y=y::r.map zf:=fun _=>rfl
    refine⟨(p.1+zM c 3%900001,p.2)::r,by (simp![BJ,on,e1,hm,qj,ox,r1,ix0,st])<;>rfl,⟨by simpa using hl6,fun q hq=>?_,fun q hq=>?_⟩⟩
    .rcases Ae.mp hq with rfl|hq
     .have:=hp p Aj
      refine⟨?_,?_,?_,?_⟩<;>(dsimp only;lia)
     .exact w0 q (Am _ hq)
    .have:=hp q (Am _ hq)
     lia
   .refine⟨p::r,by (simp![BJ,on,e1,hm])<;>rfl,⟨hl6,w0,fun q hq=>?_⟩⟩
    have:=hp q (Am _ hq);lia
end My
namespace L3
open PySem PySem.Spec PyProof.Rows
open PySem.Builtin.Str (occurrences strSub subAt partsBetween)
open PySem.StrLaws (At ChainG partsFrom)
def dg (m:Nat):List Nat:=(Nat.toDigits 10 m).map Char.toNat
def Tu (m:Nat):Str.ofString (toString ((m:Nat):Int))=tx (dg m):=by
 rw[<-SV (Str.ofString (toString ((m:Nat):Int))),PySem.W.KIN.signs_num];rfl
def Hc {m:Nat} (h:m<10):dg m=[48+m]:=by
 unfold dg;rw[Nat.toDigits_of_lt_base h];have:∀d:Nat,d<10->[Nat.digitChar d].map Char.toNat=[48+d]:=by decide
 exact this m h
def M9 {m:Nat} (h:10<=m):dg m=dg (m / 10)++[48+m%10]:=by
 have hm:m%10<10:=Nat.mod_lt m (by decide)
 have t:Nat.toDigits 10 (m / 10)++Nat.toDigits 10 (m%10)=Nat.toDigits 10 (10*(m / 10)+m%10):=Nat.toDigits_append_toDigits (by decide) (by lia) hm
 rw[Nat.div_add_mod]at t;show (Nat.toDigits 10 m).map Char.toNat=_;rw[<-t,Ax];show dg (m / 10)++dg (m%10)=_;rw[Hc hm]
def Tv (m:Nat):(∀c∈dg m,48<=c/\c<=57)/\(∃a r,dg m=a::r/\(a=48->m=0)):=by
 induction m using Nat.strongRecOn with
 |_ m ih=>
  by_cases h:m<10
  .rw[Hc h]
   exact⟨fun c hc=>by rw[As]at hc;lia,48+m,[],rfl,fun e=>by lia⟩
  .obtain⟨h1,a,r,e,h2⟩:=ih (m / 10) (by lia)
   rw[M9 (by lia)]
   refine⟨fun c hc=>?_,a,r++[48+m%10],by rw[e];rfl,fun q=>by have:=h2 q;lia⟩
   rcases Aw.mp hc with hc|hc
   .exact h1 c hc
   .rw[As]at hc;lia
theorem He:∀(k m:Nat),m<10 ^ (k+1)->(dg m).length<=k+1
 |0,m,h=>by rw[Hc (by lia)];exact Ag _
 |k+1,m,h=>by
  by_cases q:m<10
  .rw[Hc q];simp
  .rw[M9 (by lia),Av]
   have:=He k (m / 10) (by rw[Nat.pow_succ]at h;lia)
   simp;lia
def MA (m:Nat):PySem.NumText.digitsVal (dg m)=m:=PySem.W.KIN.val_back m
end L3
namespace My
open PySem L2 L3
def Tw (h:H3) (R:Res Vl):Prop:=∃ds:List Int,R=.ok (.m (.lst (ds.map .int))) h/\ds.length<=12
def Tx (ns:List Int) (h:H3):Tw h (FV [.scr ns,.int 3,.int 12] h):=by
 unfold FV IG IF
 refine y9 rfl ?_
 refine zG (by (simp![])<;>rfl) ?_
 obtain⟨L,hL⟩:∃L:Int,(ns.length:Int)=L:=⟨_,rfl⟩;generalize hN:min L 63=N;have q: -(2 ^ 62)<=(3:Int)/\(3:Int)<2 ^ 62/\ -(2 ^ 62)<=N/\N<2 ^ 62:=by lia
 refine it_R (l:=List.range (N-3).toNat) (enc:=fun j:Nat=>V3.int (3+(j:Nat))) (its:=[]) (ok:=fun _=>True) (by (simp![iR2,Ah,hL,hN,Aa q])<;>rfl) trivial (fun i s=> ∃(ds:List Int) (x4 x5:Option Vl),s=[some (.v (.scr ns)),some (.v (.int 3)),some (.v (.int 12)),some (.m (.lst (ds.map .int))),x4,x5]/\ds.length=min i 12) ⟨[],none,none,rfl,rfl⟩ ?_ ?_
 .rintro i j s hj ⟨ds,x4,x5,rfl,hd⟩
  have hi:i<(N-3).toNat:=by have:=(An.mp hj).1;simpa using this
  have ej:j=i:=by rw[List.getElem?_range hi]at hj;cases hj;rfl
  subst ej;have hk:3+j<ns.length:=by lia
  have ha:atI (ns.map V3.int) (3+(j:Int))=some (.int ns[3+j]):=by
   rw[show (3+(j:Int))=((3+j:Nat):Int) by lia]
   exact AA (j:=3+j) (by rw[A9,zH hk];rfl)
  have hm:ds.length<sizeLine:=by have:=yb;lia
  by_cases hlt:j<12
  .have hl:3+(j:Int)<3+12:=by lia
   generalize (3+(j:Int))=K at*
   refine⟨_,by (simp![hl,ha,mAppend_ok,Ah,hm])<;>rfl,ds++[ns[3+j]],_,_,by rw[Ax];rfl,by simp;lia⟩
  .have hl: ¬3+(j:Int)<3+12:=by lia
   have h12:(0:Int)<12:=by decide
   obtain⟨p,hp⟩:∃p:Int,(3+(j:Int)-3)%12=p:=⟨_,rfl⟩;have hp0:0<=p/\p<12:=by lia
   have hpl:p.toNat<ds.length:=by lia
   obtain⟨x,hx⟩:∃x,ds[p.toNat]? =some x:=⟨_,zH hpl⟩;have ha2:atI (ds.map V3.int) ((p.toNat:Nat):Int)=some (.int x):=AA (j:=p.toNat) (by rw[A9,hx];rfl)
   rw[show ((p.toNat:Nat):Int)=p by lia]at ha2
   have ox:∀(a b c d e:Option Vl),zk [a,b,c,some (.m (.lst (ds.map .int))),d,e] h (.s 3) (.x (.int p))=some (.v (.int x)):=fun a b c d e=>by
    rw[DC];show (atI (ds.map V3.int) p).map Vl.v=_;rw[ha2];rfl
   have r1:∀(a b c d e:Option Vl),rdm [a,b,c,some (.m (.lst (ds.map .int))),d,e] h (.s 3)=some (ds.map .int):=fun _ _ _ _ _=>rfl
   have ix:yA ds.length p=some p.toNat:=by unfold yA;rw[Aa hp0.1,Aa (by lia)]
   have cm:∀x,CMul 7919 x:=fun x=>Ii ⟨by decide,by decide⟩
   have se:∀v:Int,(ds.map V3.int).set p.toNat (.int v)=(ds.set p.toNat v).map .int:=fun v=>by rw[List.map_set]
   generalize (3+(j:Int))=K at*
   refine⟨_,by (simp![hl,ha,h12,hp,qj,ox,r1,Ah,ix,cm,se])<;>rfl,_,_,_,rfl,by rw[Bf];lia⟩
 .rintro s ⟨ds,x4,x5,rfl,hd⟩
  exact⟨ds,by (simp![])<;>rfl,by lia⟩
end My
namespace L3
open PySem PySem.Spec PyProof.Rows L2
def Tz {α:Type} {n:Nat} {fr:List Nat} {it:I3} {g:G3} {e:E3} {s:S3} {h:H3} {its:List V3} {ok:H3->Prop} {enc:α->V3} {l:List α} (I:S3->Prop) (f:α->V3) (ei:it s h=.ok ⟨its,l.map enc,ok⟩ h) (hok:ok h) (hl:l.length<=1000000)
  (h0:I (z8 n fr s)) (step:∀a s,a∈l->I s->∃s1 r,g (enc a) s=some s1/\I s1/\e s1 h=.ok r h/\r.fz=some (f a)):yt n fr it g tTru e s h=.ok (.m (.lst (l.map f))) h:=by
 have:=G7 (ok:=ok) (g:=g) (e:=e) (h:=h) I enc f hok (l:=l) (by have:=yb;lia) step h0
 unfold yt;simp only[ei,Res.bind,this]
def MB {α:Type} {n:Nat} {fr:List Nat} {it:I3} {g:G3} {c:T3} {e:E3} {s:S3} {h:H3} {its:List V3} {ok:H3->Prop} {enc:α->V3} {l:List α} (I:S3->Prop) (q:α->Bool) (f:α->V3) (ei:it s h=.ok ⟨its,l.map enc,ok⟩ h) (hok:ok h) (hl:l.length<=1000000)
  (h0:I (z8 n fr s)) (step:∀a s,a∈l->I s->∃s1,g (enc a) s=some s1/\I s1/\c s1 h=.ok (q a) h/\(q a=true->∃r,e s1 h=.ok r h/\r.fz=some (f a))):yt n fr it g c e s h=.ok (.m (.lst ((l.filter q).map f))) h:=by
 have:=L5 (ok:=ok) (g:=g) (c:=c) (e:=e) (h:=h) I enc q f hok (l:=l) (by have:=yb;lia) step h0
 unfold yt;simp only[ei,Res.bind,this]
end L3
namespace My
open PySem L2 L3
structure J where
 nm:List Nat
 f:Int
 l:Int
 w:Int
 b:Int
 deriving DecidableEq
abbrev J.enc (j:J):V3:= .tup [.str (tx j.nm),.int j.f,.int j.l,.int j.w,.int j.b]
structure J.Ok (j:J):Prop where
 nm:isN j.nm=true
 f:0<=j.f/\j.f<=1000000000
 l: -1<=j.l/\j.l<=10000000000
 w:1<=j.w/\j.w<=60
 b:1<=j.b/\j.b<=16
structure LoadOk (js:List J):Prop where
 len:js.length<=12
 one:∀j∈js,j.Ok
 nd:(js.map J.nm).Nodup
def T1 {a:Nat} {l:List Nat} (ha:yX a=true) (hl:l.length<=7) (h:∀x∈l,(yX x || fig x)=true):isN (a::l)=true:=by
 unfold isN;simp only[Az,List.headD_cons,List.all_cons,Ar,Bq,Bool.or_eq_true,Ey];exact⟨⟨by lia,by lia⟩,ha,.inl ha,fun x hx=>by have:=h x hx;simpa using this⟩
def T2 {a b:Nat} (h:dg a=dg b):a=b:=by rw[<-MA a,h,MA]
def strN {k:Nat} (h:k<100) (s:S3) (H:H3):FN s H [.x (.int (k:Int))]=some (.v (.str (tx (dg k)))):=by
 have h1:((k:Nat):Int).natAbs.log2<1920:=by
  rw[Int.natAbs_natCast]
  by_cases z:k=0
  .rw[z];decide
  .have:=(Nat.log2_lt z).mpr (show k<2 ^ 7 by lia)
   lia
 show (if ((k:Nat):Int).natAbs.log2<1920 then some (Vl.v (.str (Str.ofString (toString ((k:Nat):Int))))) else none)=_
 rw[Aa h1,Tu]
def MC {a k:Nat} (ha:yX a=true) (h:k<100):isN (a::dg k)=true:=T1 ha (by have:=He 1 k (by lia);lia) fun x hx=>by
 have:=(Tv k).1 x hx;unfold fig;simp;lia
def tx_j:("j" :Str)=tx [106]:=by decide+kernel
def jb (d:Int) (k:Nat) (base:Int):J where
 nm:=106::dg k
 f:=if zM d 3%5=0 then max 0 (base-2) else max 0 (base-4+zM d 1%30)
 l:=if zM d 3%5=0 then base+10+zM d 4%3 else max (-1) (max 0 (base-4+zM d 1%30)-2+zM d 2%23)
 w:=1+zM d 5%60
 b:=1+zM d 6%16
def T4 (d:Int) {k:Nat} (hk:k<100) (base:Int) (h:H3):DV [.int d,.int (k:Int),.int base] h=.ok (.v (jb d k base).enc) h:=by
 have sn:=strN hk;have hl:([106]:List Nat).length+(dg k).length<=sizeLine:=by have:=He 1 k (by lia);have:=yb;simp;lia
 have oa:=fun (s:S3)=>GX (s:=s) (h:=h) hl
 generalize ((k:Nat):Int)=K at*;unfold J.enc jb
 by_cases hm:zM d 3%5=0
 .simp only[Aa hm]
  (simp![DV,GF,BJ,hm,tx_j,sn,oa])<;>rfl
 .simp only[Ac hm]
  (simp![DV,GF,BJ,hm,tx_j,sn,oa])<;>rfl
structure Shape (base:Int) (js:List J):Prop where
 f:∀j∈js,max 0 (base-4)<=j.f/\j.f<=base+25
 l:∀j∈js.drop 1,j.l<=base+45
 hd:∀j,js.head? =some j->j.l<=base+45\/base+200<=j.l
def T5 (base:Int) (h:H3) (R:Res Vl):Prop:=∃js:List J,R=.ok (.m (.lst (js.map J.enc))) h/\LoadOk js/\Shape base js
def jb_b (d:Int) {k:Nat} (hk:k<100) {base:Int} (hb:0<=base/\base<=900009):(jb d k base).Ok/\(max 0 (base-4)<=(jb d k base).f/\(jb d k base).f<=base+25)/\(jb d k base).l<=base+45:=by
 have w1:0<=zM d 1%30/\zM d 1%30<30:=by lia
 have w2:0<=zM d 2%23/\zM d 2%23<23:=by lia
 have w3:0<=zM d 4%3/\zM d 4%3<3:=by lia
 by_cases hm:zM d 3%5=0
 .have ef:(jb d k base).f=max 0 (base-2):=by unfold jb;simp only[Aa hm]
  have el:(jb d k base).l=base+10+zM d 4%3:=by unfold jb;simp only[Aa hm]
  rw[ef,el];exact⟨⟨MC (by decide) hk,by rw[ef];lia,by rw[el];lia,by show 1<=1+zM d 5%60/\1+zM d 5%60<=60;lia,by show 1<=1+zM d 6%16/\1+zM d 6%16<=16;lia⟩,by lia,by lia⟩
 .have ef:(jb d k base).f=max 0 (base-4+zM d 1%30):=by unfold jb;simp only[Ac hm]
  have el:(jb d k base).l=max (-1) (max 0 (base-4+zM d 1%30)-2+zM d 2%23):=by unfold jb;simp only[Ac hm]
  rw[ef,el];exact⟨⟨MC (by decide) hk,by rw[ef];lia,by rw[el];lia,by show 1<=1+zM d 5%60/\1+zM d 5%60<=60;lia,by show 1<=1+zM d 6%16/\1+zM d 6%16<=16;lia⟩,by lia,by lia⟩
def T6 (ns:List Int) (base:Int) (h:H3):∃ds:List Int,ds.length<=12/\GG [some (.v (.scr ns)),some (.v (.int base)),none,none,none] h=.ok (.m (.lst (((List.range ds.length).map fun k=>jb (ds.getD k 0) k base).map J.enc))) h:=by
 obtain⟨ds,e,hd⟩:=Tx ns h
 refine⟨ds,hd,?_⟩
 unfold GG;rw[Ca]
 refine Tz (l:=List.range ds.length) (enc:=fun k=>.tup [.int (k:Nat),(ds.map V3.int).getD k .non]) (its:=[.lst (ds.map .int)]) (ok:=fun _=>True) (fun s=> ∃a b,s=[a,b,some (.v (.int base))]) (J.enc∘fun k=>jb (ds.getD k 0) k base) (by (simp![e,FC,yn,Ah])<;>rfl) trivial (by rw[B9];lia) ⟨none,none,rfl⟩ ?_
 rintro k s hk ⟨a,b,rfl⟩;have hk:=Bv.mp hk;have ed:(ds.map V3.int).getD k .non=.int (ds.getD k 0):=by
  rw[C6,C6,A9,zH hk];rfl
 have ej:=T4 (ds.getD k 0) (k:=k) (by lia) base h
 rw[ed]
 refine⟨[some (.v (.int (k:Nat))),some (.v (.int (ds.getD k 0))),some (.v (.int base))],.v (jb (ds.getD k 0) k base).enc,by (simp![])<;>rfl,⟨_,_,rfl⟩,?_,rfl⟩
 generalize (jb (ds.getD k 0) k base).enc=j at*;generalize ds.getD k 0=x at*;generalize ((k:Nat):Int)=K at*
 (simp![ej])<;>rfl
def T7 {ds:List Int} (hd:ds.length<=12) {base:Int} (hb:0<=base/\base<=900009):LoadOk ((List.range ds.length).map fun k=>jb (ds.getD k 0) k base)/\Shape base ((List.range ds.length).map fun k=>jb (ds.getD k 0) k base):=by
 have one:∀j∈(List.range ds.length).map fun k=>jb (ds.getD k 0) k base,j.Ok/\(max 0 (base-4)<=j.f/\j.f<=base+25)/\j.l<=base+45:=fun j hj=>by
  obtain⟨k,hk,rfl⟩:=B3.mp hj;exact jb_b _ (by have:=Bv.mp hk;lia) hb
 refine⟨⟨by rw[Ah,B9];exact hd,fun j hj=>(one j hj).1,?_⟩,⟨fun j hj=>(one j hj).2.1,fun j hj=>(one j (List.mem_of_mem_drop hj)).2.2,fun j hj=>.inl (one j (Fy hj)).2.2⟩⟩
 rw[Ca];rw[List.Nodup,List.pairwise_map]
 refine List.Pairwise.imp (fun {a b} hab e=>hab ?_) (List.nodup_range (n:=ds.length))
 have e:(106:Nat)::dg a=106::dg b:=e;injection e with e1 e2
 exact T2 e2
def T8 (ns:List Int) {base:Int} (hb:0<=base/\base<=900009) (h:H3):T5 base h (BG [.scr ns,.int base] h):=by
 obtain⟨ds,hd,e⟩:=T6 ns base h;obtain⟨lo,sh⟩:=T7 hd hb;generalize (List.range ds.length).map (fun k=>jb (ds.getD k 0) k base)=js at*
 have c2:=Hb ns 2 h;have c2:yG [.scr ns,.int 2] h=.ok (.v (.int (cell ns 2))) h:=c2;generalize cell ns 2=c at*;cases js with
 |nil=>
  have on:=fun (a b d f:Option Vl)=>BW (s:=[a,b,some (.m (.lst [])),d,f]) (h:=h) (f:= .s 2) (xs:=[]) rfl
  have e1:([]:List V3).isEmpty=true:=rfl;rw[A4]at e;exact⟨[],by (simp![BG,FW,e,c2,on,e1])<;>rfl,lo,sh⟩
 |cons j r=>
  have on:=fun (a b d f:Option Vl)=>BW (s:=[a,b,some (.m (.lst (j.enc::r.map J.enc))),d,f]) (h:=h) (f:= .s 2) (xs:=j.enc::r.map J.enc) rfl
  have e1:(j.enc::r.map J.enc).isEmpty=false:=rfl;rw[Al]at e
  by_cases hm:zM c 1%3=0
  .have ox:∀(a b d f:Option Vl),zk [a,b,some (.m (.lst (j.enc::r.map J.enc))),d,f] h (.s 2) (.x (.int 0))=some (.v j.enc):=fun a b d f=>by
    rw[DC];show (atI (j.enc::r.map J.enc) 0).map Vl.v=_;rw[at0];rfl
   have r1:∀(a b d f:Option Vl),rdm [a,b,some (.m (.lst (j.enc::r.map J.enc))),d,f] h (.s 2)=some (j.enc::r.map J.enc):=fun _ _ _ _=>rfl
   have st:∀y:V3,(j.enc::r.map J.enc).set 0 y=y::r.map J.enc:=fun _=>rfl
   have cm:∀x,CMul x 4:=fun x=>L8 ⟨by decide,by decide⟩
   have mb:=Tr c 2
   refine⟨{j with l:=base+200+zM c 2*4}::r,by (simp![BG,FW,e,c2,on,e1,BJ,hm,ox,cm,qj,r1,ix0,st])<;>rfl,⟨lo.len,fun q hq=>?_,lo.nd⟩,⟨fun q hq=>?_,sh.l,fun q hq=>?_⟩⟩
   .rcases Ae.mp hq with rfl|hq
    .have o:=lo.one j Aj
     exact⟨o.nm,o.f,by show -1<=base+200+zM c 2*4/\base+200+zM c 2*4<=_;lia,o.w,o.b⟩
    .exact lo.one q (Am _ hq)
   .rcases Ae.mp hq with rfl|hq
    .exact sh.f j Aj
    .exact sh.f q (Am _ hq)
   .cases hq
    exact .inr (by show base+200<=base+200+zM c 2*4;lia)
  .exact⟨j::r,by (simp![BG,FW,e,c2,on,e1,BJ,hm])<;>rfl,lo,sh⟩
end My
namespace Cal
abbrev P:=Int×Int
def at_:List P->Int->Int->Int
 | [],rest,_=>rest
 |p::r,rest,t=>if t<p.1 then p.2 else at_ r rest (t-p.1)
def tot:List P->Int
 | []=>0
 |p::r=>p.1+tot r
def stops:List P->Int->List Int
 | [],_=>[]
 |p::r,st=>(st+p.1)::stops r (st+p.1)
def Pos (rows:List P):Prop:=∀p∈rows,1<=p.1
def Pos.tail {p:P} {r:List P} (h:Pos (p::r)):Pos r:=fun x hx=>h x (Am _ hx)
def Pos.head {p:P} {r:List P} (h:Pos (p::r)):1<=p.1:=h p Aj
def pk (rest:Int):Int->Int->List P->List P
 |a,c,[]=>if c=rest then [] else [(a,c)]
 |a,c,p::r=>if p.2=c then pk rest (a+p.1) c r else (a,c)::pk rest p.1 p.2 r
def kform (rest:Int):List P->List P
 | []=>[]
 |p::r=>pk rest p.1 p.2 r
def nstep (acc:List P) (r:P):List P:=
 match acc.getLast? with
 |some l=>if l.2=r.2 then acc.dropLast++[(l.1+r.1,r.2)] else acc++[r]
 |none=>acc++[r]
def T9 {acc:List P} {l:P} (h:acc.getLast? =some l) (r:P):nstep acc r=if l.2=r.2 then acc.dropLast++[(l.1+r.1,r.2)] else acc++[r]:=by
 unfold nstep;rw[h]
def nstep_snoc (i:List P) (l r:P):nstep (i++[l]) r=if l.2=r.2 then i++[(l.1+r.1,r.2)] else (i++[l])++[r]:=by
 rw[T9 (l:=l) (by simp)]
 simp
def drp (rest:Int) (t:List P):List P:=
 match t.getLast? with
 |some l=>if l.2=rest then t.dropLast else t
 |none=>t
def drp_last {rest:Int} {t:List P} {l:P} (h:t.getLast? =some l):drp rest t=if l.2=rest then t.dropLast else t:=by
 unfold drp;rw[h]
def drp_empty {rest:Int} {t:List P} (h:t=[]):drp rest t=t:=by rw[h];rfl
theorem J0 (rest:Int):∀(r i:List P) (a c:Int),drp rest (r.foldl nstep (i++[(a,c)]))=i++pk rest a c r
 | [],i,a,c=>by
  rw[List.foldl_nil,drp_last (l:=(a,c)) (by simp)]
  unfold pk
  by_cases h:c=rest
  .rw[Aa h,Aa h];simp
  .rw[Ac h,Ac h]
 |p::r,i,a,c=>by
  rw[Eu,nstep_snoc];unfold pk
  by_cases h:c=p.2
  .rw[Aa h,Aa h.symm]
   have:=J0 rest r i (a+p.1) p.2;rw[<-h]at this ⊢;exact this
  .rw[Ac h,Ac (A5 h)]
   have:=J0 rest r (i++[(a,c)]) p.1 p.2;rw[this,Ed];rfl
def kept_eq (rest:Int) (rows:List P):drp rest (rows.foldl nstep [])=kform rest rows:=by
 cases rows with
 |nil=>rfl
 |cons p r=>exact J0 rest r [] p.1 p.2
theorem J1 (rest:Int):∀(r:List P) (a c t:Int),Pos r->at_ (pk rest a c r) rest t=at_ ((a,c)::r) rest t
 | [],a,c,t,_=>by
  unfold pk
  by_cases h:c=rest
  .rw[Aa h]
   simp only[at_];rw[h];simp
  .rw[Ac h]
 |p::r,a,c,t,h=>by
  have h1:=h.head;unfold pk
  by_cases e:p.2=c
  .rw[Aa e,J1 rest r (a+p.1) c t h.tail]
   simp only[at_]
   by_cases c1:t<a
   .rw[Aa c1,Aa (by lia)]
   .rw[Ac c1]
    by_cases c2:t-a<p.1
    .rw[Aa c2,Aa (by lia),e]
    .rw[Ac c2,Ac (by lia)]
     congr 1;lia
  .rw[Ac e]
   simp only[at_];rw[J1 rest r p.1 p.2 (t-a) h.tail];simp only[at_]
def kform_at (rest:Int) (rows:List P) (t:Int) (h:Pos rows):at_ (kform rest rows) rest t=at_ rows rest t:=by
 cases rows with
 |nil=>rfl
 |cons p r=>exact J1 rest r p.1 p.2 t h.tail
theorem J2 (rest:Int):∀(r:List P) (a c:Int),1<=a->Pos r->Pos (pk rest a c r)
 | [],a,c,ha,_=>by
  unfold pk
  by_cases h:c=rest
  .rw[Aa h];exact fun _ h=>(nomatch h)
  .rw[Ac h]
   intro p hp;rw[As.mp hp];exact ha
 |p::r,a,c,ha,h=>by
  have h1:=h.head;unfold pk
  by_cases e:p.2=c
  .rw[Aa e];exact J2 rest r (a+p.1) c (by lia) h.tail
  .rw[Ac e]
   intro x hx
   rcases Ae.mp hx with rfl|hx
   .exact ha
   .exact J2 rest r p.1 p.2 h1 h.tail x hx
def kform_pos (rest:Int) (rows:List P) (h:Pos rows):Pos (kform rest rows):=by
 cases rows with
 |nil=>exact h
 |cons p r=>exact J2 rest r p.1 p.2 h.head h.tail
theorem J3 (rest:Int):∀(r:List P) (a c:Int),(pk rest a c r).length<=r.length+1
 | [],a,c=>by unfold pk;split<;>simp
 |p::r,a,c=>by
  unfold pk
  split
  .exact Bi (J3 rest r _ _) (by simp)
  .rw[Az,Az]
   have:=J3 rest r p.1 p.2;lia
def kform_len (rest:Int) (rows:List P):(kform rest rows).length<=rows.length:=by
 cases rows with
 |nil=>exact Ag _
 |cons p r=>exact J3 rest r p.1 p.2
def chg (rest:Int):List P->Int->List Int
 | [],_=>[]
 |p::r,st=>(if at_ r rest 0=p.2 then [] else [st+p.1])++chg rest r (st+p.1)
theorem J4 (rest:Int):∀(r:List P) (b a c:Int),Pos r->stops (pk rest a c r) b=(if at_ r rest 0=c then [] else [b+a])++chg rest r (b+a)
 | [],b,a,c,_=>by
  unfold pk chg;rw[show at_ [] rest 0=rest from rfl]
  by_cases h:rest=c
  .rw[Aa h,Aa h.symm];rfl
  .rw[Ac h,Ac (A5 h)];rfl
 |p::r,b,a,c,h=>by
  have h1:=h.head;have e0:at_ (p::r) rest 0=p.2:=by simp only[at_];rw[Aa (by lia)]
  rw[e0];unfold pk chg
  by_cases e:p.2=c
  .rw[Aa e,Aa e,Cn,J4 rest r b (a+p.1) c h.tail,e,show b+(a+p.1)=b+a+p.1 by lia]
  .rw[Ac e,Ac e,List.singleton_append]
   simp only[stops];rw[J4 rest r (b+a) p.1 p.2 h.tail]
def stops_kform (rest:Int) (rows:List P) (h:Pos rows):stops (kform rest rows) 0=chg rest rows 0:=by
 cases rows with
 |nil=>rfl
 |cons p r=>
  unfold kform chg;rw[J4 rest r 0 p.1 p.2 h.tail]
theorem MD:∀{rows:List P},Pos rows->0<=tot rows
 | [],_=>Cq _
 |p::r,h=>by
  have:=MD h.tail;have:=h.head;unfold tot;lia
end Cal
namespace My
open PySem L2 L3
structure RwB (rows:List (Int×Int)) (rest:Int):Prop where
 len:rows.length<=16
 one:∀p∈rows,1<=p.1/\p.1<=1000000/\0<=p.2/\p.2<=16
 rest:1<=rest/\rest<=16
def nb2:(Str.ofString "stretches" =Str.ofString "beyond")=False:=eq_false (by decide+kernel)
abbrev calV (rows:List (Int×Int)) (rest:Int):V3:= .obj "Calendar" [("stretches",.lst (rows.map zf)),("beyond",.int rest)]
def ME (a:Int) (h:H3):FQ [.int a] h=.ok (.v (.bl true)) h:=by
 simp![FQ,Iz]
def BK {a b c:Int} (h1:b<=a) (h2:a<=c) (h:H3):qq [.int a,.int b,.int c] h=.ok (.v (.bl true)) h:=by
 simp![qq,GB,ME,h1,h2]
def TB {a:Int} (h1:0<=a) (h2:a<=16) (h:H3):FR [.int a] h=.ok (.v (.bl true)) h:=by
 simp![FR,IA,BK h1 h2]
def TC {a:Int} (h1:1<=a) (h2:a<=16) (h:H3):FU [.int a] h=.ok (.v (.bl true)) h:=by
 simp![FU,ID,BK h1 h2]
def TF {p:Int×Int} (h1:1<=p.1/\p.1<=1000000/\0<=p.2/\p.2<=16) (h:H3):FS [zf p] h=.ok (.v (.bl true)) h:=by
 simp![FS,IB,BK h1.1 h1.2.1,TB h1.2.2.1 h1.2.2.2]
def TH {rows:List (Int×Int)} {rest:Int} (hr:RwB rows rest) (h:H3):FT [.lst (rows.map zf)] h=.ok (.v (.bl true)) h:=by
 have hc:GC [some (.v (.lst (rows.map zf)))] h=.ok (.m (.lst ((rows.map fun _=>true).map .bl))) h:=by
  unfold GC;rw[Ca]
  refine Jv (x:= .lst (rows.map zf)) (enc:=zf) (fun s=> ∃a,s=[a]) _ (by simp![]) rfl (by have:=hr.len;lia) ⟨none,rfl⟩ ?_
  rintro p s hp ⟨a,rfl⟩;exact⟨_,_,by (simp![])<;>rfl,⟨_,rfl⟩,by (simp![TF (hr.one p hp)])<;>rfl,rfl⟩
 have hl: ¬((16:Int)<(rows.length:Int)):=by have:=hr.len;lia
 have ha:(rows.map fun _=>true).all id=true:=by simp
 simp![FT,IC,hc,Ah,hl,Jw,ha]
def TJ (rows:List (Int×Int)) (hl:rows.length<=1000) (h:H3):FO [.lst (rows.map zf)] h=.ok (.m (.lst ((rows.foldl Cal.nstep []).map zf))) h:=by
 show Is h _ _;unfold FO Iy Iw
 refine y9 rfl ?_
 refine zG (by (simp![])<;>rfl) ?_
 refine DT (x:= .lst (rows.map zf)) (l:=rows) (enc:=zf) (by simp![]) rfl (fun i s=> ∃acc x2 x3,s=[some (.v (.lst (rows.map zf))),some (.m (.lst (acc.map zf))),x2,x3]/\acc.length<=i/\(rows.drop i).foldl Cal.nstep acc=rows.foldl Cal.nstep []) ⟨[],none,none,rfl,by simp,by simp⟩ ?_ ?_
 .rintro i p s hi ⟨acc,x2,x3,rfl,ha,hI⟩
  rw[BI hi,Eu]at hI;have hil:i<rows.length:=(An.1 hi).1;have c3:acc.length<sizeLine:=by have:=yb;lia
  rcases Em acc with rfl|⟨ini,q,rfl⟩
  .refine⟨_,by (simp![GZ,List.isEmpty_nil])<;>rfl,⟨[(p.1,p.2)],_,_,rfl,by simp,?_⟩⟩
   rw[<-hI];rfl
  .rw[D6,Cal.nstep_snoc]at hI
   rw[D6]at c3 ha ⊢;rw[Ax,Al,A4];rw[Av,Dv]at ha;have e1:∀(h:H3) (x2 x3:Option Vl),zk [some (.v (.lst (rows.map zf))),some (.m (.lst (ini.map zf++[zf q]))),x2,x3] h (.s 1) (.x (.int (-1)))=some (.v (zf q)):=fun h x2 x3=>GY rfl
   have c4:ini.length+1<sizeLine:=by simpa using c3
   have ne:(ini.map zf++[zf q]).isEmpty=false:=by simp
   have e2:yA (ini.length+1) (-1)=some ini.length:=by
    unfold yA;rw[Ac (by decide),Aa (by lia)]
    congr 1;lia
   by_cases hq:q.2=p.2
   .rw[Aa hq]at hI
    refine⟨_,by (simp![ne,e1,hq,qj,Av,Ah,e2])<;>rfl,⟨ini++[(q.1+p.1,p.2)],some (.v (.int p.1)),some (.v (.int p.2)),?_,by simpa using by lia,hI⟩⟩
    rw[Ax,Al,A4,Ha (by rw[Ah])]
   .rw[Ac hq]at hI
    refine⟨_,by (simp![ne,e1,hq,c4,Av,Ah])<;>rfl,⟨(ini++[q])++[p],some (.v (.int p.1)),some (.v (.int p.2)),?_,by simpa using by lia,hI⟩⟩
    rw[Ax,Ax,Al,A4,Al,A4]
 .rintro s ⟨acc,x2,x3,rfl,ha,hI⟩
  rw[Cf,List.foldl_nil]at hI;subst hI;unfold Is
  (simp![])<;>rfl
def TK (rows:List (Int×Int)) (rest:Int) (hl:rows.length<=1000) (h:H3):CP [.lst (rows.map zf),.int rest] h=.ok (.m (.lst ((Cal.kform rest rows).map zf))) h:=by
 rw[<-Cal.kept_eq];generalize hm:rows.foldl Cal.nstep []=t;have e0:=TJ rows hl h;rw[hm]at e0
 rcases Em t with rfl|⟨ini,q,rfl⟩
 .rw[Cal.drp_empty rfl]
  (simp![CP,FP,e0,GZ,List.isEmpty_nil])
 .rw[D6]at e0 ⊢
  rw[Cal.drp_last (l:=q) (by simp),Fz]
  have ne:(ini.map zf++[zf q]).isEmpty=false:=by simp
  have e1:∀(h:H3) (x0 x1:Option Vl),zk [x0,x1,some (.m (.lst (ini.map zf++[zf q])))] h (.s 2) (.x (.int (-1)))=some (.v (zf q)):=fun h x0 x1=>GY rfl
  rw[Ax,Al,A4]at e0;have e3:mPop (ini.map zf++[zf q]) []=some (ini.map zf,zf q):=by
   unfold mPop;simp
  by_cases hq:q.2=rest
  .rw[Aa hq]
   (simp![CP,FP,e0,ne,e1,hq,e3])
  .rw[Ac hq]
   (simp![CP,FP,e0,ne,e1,hq,Ax])
def TL {rows:List (Int×Int)} {rest:Int} (hr:RwB rows rest) (h:H3):CS [.loc h.length,.lst (rows.map zf),.int rest] (h++[.ins "Calendar" []])=.ok (.v .non) (h++[.ins "Calendar" [("stretches",.lst ((Cal.kform rest rows).map zf)),("beyond",.int rest)]]):=by
 have hg:∀c,(h++[C3.ins "Calendar" c])[h.length]? =some (.ins "Calendar" c):=fun c=>by simp
 have hs:∀c d,(h++[C3.ins "Calendar" c]).set h.length d=h++[d]:=fun c d=>Ha rfl
 simp![CS,IE,TH hr,TC hr.rest.1 hr.rest.2,G4,TK rows rest (by have:=hr.len;lia),hg,hs,DQ,As,nb2]
def MF {p:Int×Int} {r:List (Int×Int)} {rest t:Int}:Cal.at_ (p::r) rest t=if t<p.1 then p.2 else Cal.at_ r rest (t-p.1):=rfl
def MG {rest t:Int}:Cal.at_ [] rest t=rest:=rfl
def TM (rows:List (Int×Int)) (rest t:Int) (h:H3):Gh [calV rows rest,.int t] h=.ok (.v (.int (Cal.at_ rows rest t))) h:=by
 show Is h _ _;unfold Gh IZ IY
 refine y9 rfl ?_
 refine zG (by (simp![])<;>rfl) ?_
 refine it_E (l:=rows) (enc:=zf) (its:=[.lst (rows.map zf)]) (ok:=fun _=>True) (by (simp![iL,yn])<;>rfl) (fun i s h'=>h'=h/\∃e y3 y4,s=[some (.v (calV rows rest)),some (.v (.int t)),some (.v (.int e)),y3,y4]/\Cal.at_ (rows.drop i) rest (t-e)=Cal.at_ rows rest t) (fun _ _ _ _=>trivial) ⟨rfl,0,none,none,rfl,by rw[El,Int.sub_zero]⟩ ?_ ?_
 .rintro i p s h' hi ⟨rfl,e,y3,y4,rfl,hI⟩
  rw[BI hi,MF]at hI
  by_cases hq:t<e+p.1
  .rw[Aa (by lia)]at hI
   refine .inr (.inl ⟨.v (.int p.2),_,by (simp![hq])<;>rfl,?_⟩)
   unfold Is;rw[hI]
  .rw[Ac (by lia)]at hI
   refine .inl ⟨_,_,.inl (by (simp![hq])<;>rfl),rfl,e+p.1,_,_,rfl,?_⟩
   rw[<-hI];congr 1;lia
 .rintro s h' ⟨rfl,e,y3,y4,rfl,hI⟩
  rw[Cf,MG]at hI;unfold Is;rw[<-hI]
  (simp![])<;>rfl
end My
namespace Bd
open L2 L3
theorem MH:∀{l m:List Int},l.Nodup->(∀x∈l,x∈m)->l.length<=m.length
 | [],_,_,_=>Bw _
 |x::r,m,nd,h=>by
  rw[Bu]at nd;have hx:x∈m:=h x Aj;have:=MH (l:=r) (m:=m.erase x) nd.2 fun y hy=>(List.mem_erase_of_ne (fun (z:y=x)=>nd.1 (z ▸ hy))).mpr (h y (Am _ hy))
  rw[List.length_erase_of_mem hx]at this;have:=List.length_pos_of_mem hx;rw[Az];lia
def dedup_any {σ:List Int} {k:Int}:σ.any (· ==k)=true↔k∈σ:=by simp[C2]
theorem Hf:∀(l acc:List Int),acc.Nodup->(l.foldl PyProof.Rows.step_dedup acc).Nodup/\∀x,x∈l.foldl PyProof.Rows.step_dedup acc↔x∈acc\/x∈l
 | [],acc,h=>⟨h,fun x=>by simp⟩
 |k::r,acc,h=>by
  rw[Eu]
  by_cases hk:k∈acc
  .have e:PyProof.Rows.step_dedup acc k=acc:=by unfold PyProof.Rows.step_dedup;rw[Aa (dedup_any.mpr hk)]
   rw[e];obtain⟨a,b⟩:=Hf r acc h
   refine⟨a,fun x=>(b x).trans ?_⟩
   rw[Ae];exact⟨fun z=>z.imp id .inr,fun z=>z.elim .inl fun z=>z.elim (fun e=>.inl (e ▸ hk)) .inr⟩
  .have e:PyProof.Rows.step_dedup acc k=acc++[k]:=by unfold PyProof.Rows.step_dedup;rw[Ac fun z=>hk (dedup_any.mp z)]
   rw[e];obtain⟨a,b⟩:=Hf r (acc++[k]) (D0.mpr ⟨h,by simp,fun x hx y hy z=>by rw[As]at hy;subst hy;subst z;exact hk hx⟩)
   refine⟨a,fun x=>(b x).trans ?_⟩
   rw[Aw,As,Ae,or_assoc]
def MI (l:List Int):(zN l).Nodup:=(Hf l [] Eh).1
def MJ (l:List Int) (x:Int):x∈zN l↔x∈l:=by
 have:=(Hf l [] Eh).2 x;simpa[zN] using this
abbrev Up (l:List Int):Prop:=l.Pairwise (· < ·)
def srt (l:List Int):List Int:=FA (zN l)
def srt_up (l:List Int):Up (srt l):=by
 have h:=(CF (zN l)).2;have n:(FA (zN l)).Nodup:=(CF (zN l)).1.nodup_iff.mpr (MI l)
 refine List.Pairwise.imp₂ (fun a b h1 h2=>?_) h n
 lia
def srt_mem (l:List Int) (x:Int):x∈srt l↔x∈l:=((CF (zN l)).1.mem_iff).trans (MJ l x)
def srt_len {l m:List Int} (h:∀x∈l,x∈m):(zN l).length<=m.length:=MH (MI l) fun x hx=>h x ((MJ l x).mp hx)
def prs:List Int->List (Int×Int)
 |a::b::r=>(a,b)::prs (b::r)
 |_=>[]
theorem prs_zip:∀l:List Int,l.zip (l.drop 1)=prs l
 | []=>rfl
 | [a]=>rfl
 |a::b::r=>by
  show (a,b)::(b::r).zip r=(a,b)::prs (b::r);rw[<-prs_zip (b::r)];rfl
theorem prs_up:∀{l:List Int},Up l->∀p∈prs l,p.1<p.2/\p.1∈l/\p.2∈l/\∀x∈l,x<=p.1\/p.2<=x
 | [],_,p,hp=>by cases hp
 | [a],_,p,hp=>by cases hp
 |a::b::r,h,p,hp=>by
  obtain⟨h1,h2⟩:=B2.mp h;obtain⟨h3,h4⟩:=B2.mp h2
  rcases Ae.mp hp with e|m
  .subst e
   refine⟨h1 b Aj,Aj,Am _ Aj,fun x hx=>?_⟩
   rcases Ae.mp hx with e|m
   .exact .inl (by lia)
   .rcases Ae.mp m with e|m
    .exact .inr (by lia)
    .have:=h3 x m;exact .inr (by lia)
  .obtain⟨a1,a2,a3,a4⟩:=prs_up h2 p m
   refine⟨a1,Am _ a2,Am _ a3,fun x hx=>?_⟩
   rcases Ae.mp hx with e|m
   .have:=h1 p.1 a2;exact .inl (by lia)
   .exact a4 x m
theorem prs_sum:∀{l:List Int},Up l->∀{u v:Int},u∈l->v∈l->u<=v->(((prs l).filter fun p=>decide (u<=p.1) && decide (p.2<=v)).map fun p=>p.2-p.1).sum=v-u
 | [],_,u,_,hu,_,_=>by cases hu
 | [a],_,u,v,hu,hv,_=>by
  rw[As]at hu hv;subst hu;subst hv;show (0:Int)=_;lia
 |a::b::r,h,u,v,hu,hv,huv=>by
  obtain⟨h1,h2⟩:=B2.mp h;have hab:=h1 b Aj;have zero:∀{x:Int},x<=a->(prs (b::r)).filter (fun p=>decide (x<=p.1) && decide (p.2<=a))=[]:=fun {x} hx=>Ga.mpr fun p hp=>by
   have:=(prs_up h2 p hp).2.2.1;have:=h1 p.2 this;simp;lia
  by_cases eu:u=a
  .subst eu
   by_cases ev:v=u
   .subst ev
    rw[show prs (v::b::r)=(v,b)::prs (b::r) from rfl,En (by simp;lia),zero (Cq _)]
    show (0:Int)=_;lia
   .have hv':v∈b::r:=(Ae.mp hv).resolve_left ev
    have hbv:b<=v:=by
     rcases Ae.mp hv' with e|m
     .lia
     .have:=(B2.mp h2).1 v m;lia
    rw[show prs (u::b::r)=(u,b)::prs (b::r) from rfl,Fh (by simp;lia),Al,List.sum_cons]
    have e:(prs (b::r)).filter (fun p=>decide (u<=p.1) && decide (p.2<=v))=(prs (b::r)).filter (fun p=>decide (b<=p.1) && decide (p.2<=v)):=List.filter_congr fun p hp=>by
     have m:=(prs_up h2 p hp).2.1;have h3:=h1 p.1 m;have h4:b<=p.1:=by
      rcases Ae.mp m with e|m
      .lia
      .have:=(B2.mp h2).1 _ m;lia
     rw[Bk (show u<=p.1 by lia),Bk h4]
    rw[e,prs_sum h2 Aj hv' hbv];show b-u+(v-b)=_;lia
  .have hu':u∈b::r:=(Ae.mp hu).resolve_left eu
   have hau:=h1 u hu';have hv':v∈b::r:=(Ae.mp hv).resolve_left (by lia)
   rw[show prs (a::b::r)=(a,b)::prs (b::r) from rfl,En (by simp;lia)]
   exact prs_sum h2 hu' hv' huv
theorem at_same:∀(rows:List Cal.P) (rest st a t:Int),Cal.Pos rows->a<=t->(∀s∈Cal.stops rows st,s<=a+st\/t+st<s)->Cal.at_ rows rest t=Cal.at_ rows rest a
 | [],_,_,_,_,_,_,_=>rfl
 |p::r,rest,st,a,t,hp,hat,h=>by
  have h0:=h (st+p.1) Aj;show (if t<p.1 then p.2 else Cal.at_ r rest (t-p.1))=if a<p.1 then p.2 else Cal.at_ r rest (a-p.1)
  by_cases ht:t<p.1
  .rw[Aa ht,Aa (by lia)]
  .rw[Ac ht,Ac (by lia)]
   refine at_same r rest (st+p.1) (a-p.1) (t-p.1) hp.tail (by lia) fun s hs=>?_
   have:=h s (Am _ hs);lia
end Bd
namespace My
open PySem L2 L3
def Hg {l:List Nat} (h:isN l=true):∃a r,l=a::r/\l.length<=8/\yX a=true/\l.all (fun c=>yX c || fig c)=true:=by
 unfold isN at h;simp only[Ar,Bq]at h;obtain⟨⟨h1,h2⟩,h3,h4⟩:=h
 match l,h1,h2,h3,h4 with
 |a::r,h1,h2,h3,h4=>exact⟨a,r,rfl,h2,h3,h4⟩
def Hh {l:List Nat} (hn:isN l=true) (h:H3):BU [.str (tx l)] h=.ok (.v (.bl true)) h:=by
 obtain⟨a,r,rfl,h8,hs,ha⟩:=Hg hn;have hc:GI [some (.v (.str (tx (a::r))))] h=.ok (.m (.lst (((a::r).map fun c=>yX c || fig c).map .bl))) h:=by
  unfold GI;rw[Ca]
  refine Te (fun s=> ∃x,s=[x]) _ (by simp![]) (by lia) ⟨none,rfl⟩ ?_
  rintro c s _ ⟨x,rfl⟩;exact⟨_,_,by (simp![])<;>rfl,⟨_,rfl⟩,by (simp![SY,Mz,Ta])<;>rfl,rfl⟩
 have hl:(a::r).length<=sizeLine:=by have:=yb;lia
 have hl2:r.length+1<=sizeLine:=hl;have l1:(1:Int)<=((r.length+1:Nat):Int):=by lia
 have l8:((r.length+1:Nat):Int)<=8:=by rw[Az]at h8;lia
 have hall:(((a::r).map fun c=>yX c || fig c)).all id=true:=by rw[List.all_map];exact ha
 have hb:bAll (fun bs=>bs.all id) [some (.v (.str (tx (a::r))))] h [.x (.lst (((a::r).map fun c=>yX c || fig c).map .bl))]=some (.v (.bl true)):=by rw[Jw,hall]
 rw[Al,Al,hs,Bool.true_or]at hb hc;simp![BU,GJ,DB,hl2,l1,l8,Tb,SX,Mz,SZ,hs,hc,hb]
def ML {j:J} (hj:j.Ok) (h:H3):BV [.int j.f,.int j.l,.int j.w,.int j.b] h=.ok (.v (.bl true)) h:=by
 simp![BV,GK,BK hj.f.1 hj.f.2,BK hj.l.1 hj.l.2,BK hj.w.1 hj.w.2,BK hj.b.1 hj.b.2]
def J5 {s:S3} {h:H3} {i:Nat} {ls:List (List Nat)} {l:List Nat} (e:s[i]? =some (some (.m (.lst (ls.map fun l=>.str (tx l)))))) (hl:l∉ls):qx false s h (.x (.str (tx l))) (.s i)=some (.v (.bl false)):=by
 have e2:zF (fun b=>zA h 8 b (.str (tx l))) (ls.map fun l=>V3.str (tx l))=some (ls.map fun m=>decide (tx m=tx l)):=EZ (f:=fun b=>zA h 8 b (.str (tx l))) (g:=fun l=>V3.str (tx l)) (k:=fun m=>decide (tx m=tx l)) (fun m=>DS) ls
 have e3:(ls.map fun m=>decide (tx m=tx l)).any id=false:=by
  rw[List.any_map,List.any_eq_false];intro m hm;simp only[Function.comp,id,Bq];intro z;exact hl (Mx z ▸ hm)
 unfold qx inO;simp only[rdl,e,e2,Bh,e3]
 first|rfl|simp
def TN {js:List J} (hj:LoadOk js) {x:V3} {h:H3} (hx:IsL h x (js.map J.enc)):BH [x] h=.ok (.v (.bl true)) h:=by
 show Is h _ _;obtain⟨ok,hw⟩:=hx.walk;unfold BH FZ GL
 refine y9 rfl ?_
 have hl: ¬((12:Int)<(js.length:Int)):=by have:=hj.len;lia
 refine zG (s1:=[some (.v x),none,none,none,none,none,none]) (h1:=h) ?_ ?_
 .rcases hx with rfl|⟨n,rfl,en⟩
  .simp![Ah,hl]
  .simp![en,Ah,hl]
 refine zG (by (simp![])<;>rfl) ?_
 refine DT (x:=x) (l:=js) (enc:=J.enc) (by simp![]) hw (fun i s=> ∃x2 x3 x4 x5 x6,s=[some (.v x),some (.m (.lst (((js.take i).map J.nm).map fun l=>.str (tx l)))),x2,x3,x4,x5,x6]) ⟨none,none,none,none,none,rfl⟩ ?_ ?_
 .rintro i j s hi ⟨x2,x3,x4,x5,x6,rfl⟩
  obtain⟨hil,hji⟩:=An.1 hi;have hjm:=Ap hi;have ho:=hj.one j hjm;have hnot:j.nm∉(js.take i).map J.nm:=by
   have h0:js.map J.nm=(js.take i).map J.nm++j.nm::(js.drop (i+1)).map J.nm:=by
    rw[<-Al,<-Ax,<-BI hi,Gb]
   have h1:=hj.nd;rw[h0,D0]at h1;intro z;exact h1.2.2 _ z _ Aj rfl
  have hin:∀x2 x3 x4 x5 x6,qx false [some (.v x),some (.m (.lst (((js.take i).map J.nm).map fun l=>V3.str (tx l)))),x2,x3,x4,x5,x6] h (.x (.str (tx j.nm))) (.s 1)=some (.v (.bl false)):=fun x2 x3 x4 x5 x6=>J5 rfl hnot
  have hap:∀y,yZ (((js.take i).map J.nm).map fun l=>V3.str (tx l)) [y]=some ((((js.take i).map J.nm).map fun l=>V3.str (tx l))++[y],.non):=fun y=>mAppend_ok (by rw[Ah,Ah,Bc];have:=yb;have:=hj.len;lia)
  refine⟨_,by (simp![Hh ho.nm,hin,ML ho,hap])<;>rfl,⟨some (.v (.str (tx j.nm))),some (.v (.int j.f)),some (.v (.int j.l)),some (.v (.int j.w)),some (.v (.int j.b)),?_⟩⟩
  rw[Ez,hi,Option.toList,Ax,Ax,Al,A4,Al,A4]
 .rintro s ⟨x2,x3,x4,x5,x6,rfl⟩
  unfold Is;simp![]
def MM (j:J) (h:H3):Gd [j.enc] h=.ok (.v (.int (max 0 (j.l-j.f+1)))) h:=by
 simp![Gd,IM]
def chgs (rows:List (Int×Int)) (f l:Int):List Int:=(Cal.stops rows 0).filter fun s=>decide (f<s) && decide (s<=l)
def TQ (rows:List (Int×Int)) (hl:rows.length<=1000) (rest f l:Int) (h:H3):Ge [calV rows rest,.int f,.int l] h=.ok (.m (.lst ((chgs rows f l).map .int))) h:=by
 show Is h _ _;unfold Ge IT IQ
 refine y9 rfl ?_
 refine zG (by (simp![])<;>rfl) ?_
 refine zG (by (simp![])<;>rfl) ?_
 refine DT (x:= .lst (rows.map zf)) (l:=rows) (enc:=zf) (by (simp![eFld,BC,As,List.lookup])<;>rfl) rfl (fun i s=> ∃acc st y5 y6,s=[some (.v (calV rows rest)),some (.v (.int f)),some (.v (.int l)),some (.m (.lst (acc.map .int))),some (.v (.int st)),y5,y6]/\acc.length<=i/\acc++((Cal.stops (rows.drop i) st).filter fun s=>decide (f<s) && decide (s<=l))=chgs rows f l) ⟨[],0,none,none,rfl,by simp,rfl⟩ ?_ ?_
 .rintro i p s hi ⟨acc,st,y5,y6,rfl,ha,hI⟩
  rw[BI hi,show Cal.stops (p::rows.drop (i+1)) st=(st+p.1)::Cal.stops (rows.drop (i+1)) (st+p.1) from rfl]at hI
  have hil:i<rows.length:=(An.1 hi).1;have hap:∀y,yZ (acc.map V3.int) [y]=some (acc.map V3.int++[y],.non):=fun y=>mAppend_ok (by rw[Ah];have:=yb;lia)
  by_cases h1:f<st+p.1
  .by_cases h2:st+p.1<=l
   .rw[Fh (by simp[h1,h2])]at hI
    refine⟨_,by (simp![h1,h2,hap])<;>rfl,⟨acc++[st+p.1],st+p.1,_,_,by rw[Ax];rfl,by simpa using ha,?_⟩⟩
    rw[Ed];exact hI
   .rw[En (by simp[h1,h2])]at hI
    exact⟨_,by (simp![h1,h2])<;>rfl,⟨acc,st+p.1,_,_,rfl,by lia,hI⟩⟩
  .rw[En (by simp[h1])]at hI
   exact⟨_,by (simp![h1])<;>rfl,⟨acc,st+p.1,_,_,rfl,by lia,hI⟩⟩
 .rintro s ⟨acc,st,y5,y6,rfl,ha,hI⟩
  rw[Cf,show Cal.stops [] st=[] from rfl,List.filter_nil,Bt]at hI
  subst hI;unfold Is;simp![]
def bdJ (rows:List (Int×Int)) (j:J):List Int:=if j.f<=j.l then [j.f,j.l+1]++chgs rows j.f j.l else []
def zQ (rows:List (Int×Int)) (js:List J):List Int:=js.flatMap (bdJ rows)
theorem Hi:∀(rows:List (Int×Int)) (st:Int),(Cal.stops rows st).length=rows.length
 | [],_=>rfl
 |_::r,st=>by show (Cal.stops r _).length+1=r.length+1;rw[Hi r]
def TR (rows:List (Int×Int)) (j:J):(bdJ rows j).length<=rows.length+2:=by
 unfold bdJ chgs
 split
 .have:=Eo (fun s=>decide (j.f<s) && decide (s<=j.l)) (Cal.stops rows 0)
  rw[Hi]at this;simp;lia
 .simp
theorem J6 (rows:List (Int×Int)):∀js:List J,(zQ rows js).length<=js.length*(rows.length+2)
 | []=>Bw _
 |j::r=>by
  show ((bdJ rows j)++zQ rows r).length<=_;have h1:=TR rows j;have h2:=J6 rows r;rw[Av,Az,Nat.succ_mul];lia
def bdL_mem {rows:List (Int×Int)} {js:List J} {x:Int}:x∈zQ rows js↔∃j∈js,j.f<=j.l/\(x=j.f\/x=j.l+1\/(x∈Cal.stops rows 0/\j.f<x/\x<=j.l)):=by
 unfold zQ;rw[List.mem_flatMap]
 constructor
 .rintro⟨j,hj,hx⟩
  unfold bdJ at hx
  by_cases e:j.f<=j.l
  .rw[Aa e]at hx
   simp[chgs]at hx;exact⟨j,hj,e,hx⟩
  .rw[Ac e]at hx;cases hx
 .rintro⟨j,hj,e,hx⟩
  refine⟨j,hj,?_⟩
  unfold bdJ;rw[Aa e];simp[chgs];exact hx
def J7 {rows:List (Int×Int)} {js:List J} (h1:js.length<=12) (h2:rows.length<=16):(zN (zQ rows js)).length<64:=by
 have:=Bd.srt_len (l:=zQ rows js) (m:=js.map (·.f)++js.map (fun j=>j.l+1)++Cal.stops rows 0) fun x hx=>by
  obtain⟨j,hj,_,e⟩:=bdL_mem.mp hx;rw[Aw,Aw,B3,B3]
  rcases e with e|e|⟨e,_⟩
  .exact .inl (.inl ⟨j,hj,e.symm⟩)
  .exact .inl (.inr ⟨j,hj,e.symm⟩)
  .exact .inr e
 rw[Av,Av,Ah,Ah,Hi]at this;lia
def MN {xs ys:List V3} (h:xs.length+ys.length<=sizeLine):BR xs [.lst ys]=some (xs++ys,.non):=by
 unfold BR;simp only[Aa h]
def TU {s:S3} {h:H3} {f:Rf} {ns:List Int} (hf:rdl s h f=some (ns.map .int)) (h1:ns.length<4000) (h2:(zN ns).length<64):DU s h [f]=some (.m (.lst ((Bd.srt ns).map .int))):=by
 unfold DU;simp only[hf,L6,Aa (zd h1 h2)];rfl
def TV {rows:List (Int×Int)} {rest:Int}:List.lookup ("changes":Str) [(("stretches":Str),V3.lst (rows.map zf)),(("beyond":Str),V3.int rest)]=none:=by
 have h1:(Str.ofString "changes" ==Str.ofString "stretches")=false:=by decide+kernel
 have h2:(Str.ofString "changes" ==Str.ofString "beyond")=false:=by decide+kernel
 simp only[List.lookup,h1,h2]
def noAt {rows:List (Int×Int)} {rest:Int}:List.lookup ("at":Str) [(("stretches":Str),V3.lst (rows.map zf)),(("beyond":Str),V3.int rest)]=none:=by
 have h1:(Str.ofString "at" ==Str.ofString "stretches")=false:=by decide+kernel
 have h2:(Str.ofString "at" ==Str.ofString "beyond")=false:=by decide+kernel
 simp only[List.lookup,h1,h2]
def TX {js:List J} (hj:LoadOk js) {rows:List (Int×Int)} (hl:rows.length<=16) (rest:Int) (h:H3):Gf [.lst (js.map J.enc),calV rows rest] h=.ok (.m (.lst ((Bd.srt (zQ rows js)).map .int))) h:=by
 show Is h _ _;unfold Gf IV IU
 refine y9 rfl ?_
 refine zG (by (simp![])<;>rfl) ?_
 refine DT (x:= .lst (js.map J.enc)) (l:=js) (enc:=J.enc) (by simp![]) rfl (fun i s=> ∃y3,s=[some (.v (.lst (js.map J.enc))),some (.v (calV rows rest)),some (.m (.lst ((zQ rows (js.take i)).map .int))),y3]) ⟨none,rfl⟩ ?_ ?_
 .rintro i j s hi ⟨y3,rfl⟩
  have e1:zQ rows (js.take (i+1))=zQ rows (js.take i)++bdJ rows j:=by
   unfold zQ;rw[M4 hi,List.flatMap_append];simp
  rw[e1];have hb:=J6 rows (js.take i);have hjl:(js.take i).length<=12:=by rw[Bc];have:=hj.len;lia
  have hb2:(zQ rows (js.take i)).length<=216:=by
   have:(js.take i).length*(rows.length+2)<=12*18:=Nat.mul_le_mul hjl (by lia)
   lia
  have hz:=yb;have hc:(chgs rows j.f j.l).length<=16:=by
   unfold chgs;have:=Eo (fun s=>decide (j.f<s) && decide (s<=j.l)) (Cal.stops rows 0)
   rw[Hi]at this;lia
  generalize zQ rows (js.take i)=acc at hb2 ⊢
  by_cases hw:j.f<=j.l
  .have h0:(0:Int)<max 0 (j.l-j.f+1):=by lia
   have ea:BR (acc.map V3.int) [.lst [.int j.f,.int (j.l+1)]]=some (acc.map V3.int++[.int j.f,.int (j.l+1)],.non):=MN (by rw[Ah];show acc.length+2<=_;lia)
   have eb:BR (acc.map V3.int++[.int j.f,.int (j.l+1)]) [.lst ((chgs rows j.f j.l).map .int)]=some ((acc.map V3.int++[.int j.f,.int (j.l+1)])++(chgs rows j.f j.l).map .int,.non):=MN (by rw[Av,Ah,Ah];show acc.length+2+_<=_;lia)
   refine⟨_,by (simp![MM,h0,ea,CJ,BC,TV,TQ rows (by lia),eb])<;>rfl,⟨some (.v j.enc),?_⟩⟩
   unfold bdJ;rw[Aa hw];simp
  .have h0: ¬(0:Int)<max 0 (j.l-j.f+1):=by lia
   refine⟨_,by (simp![MM,h0])<;>rfl,⟨some (.v j.enc),?_⟩⟩
   unfold bdJ;rw[Ac hw,Bt]
 .rintro s ⟨y3,rfl⟩
  rw[E5];have hb:=J6 rows js;have hb2:(zQ rows js).length<=216:=by
   have:js.length*(rows.length+2)<=12*18:=Nat.mul_le_mul hj.len (by lia)
   lia
  have e:=fun s h=>TU (s:=s) (h:=h) (f:= .x (.lst ((zQ rows js).map .int))) (ns:=zQ rows js) rfl (by lia) (J7 hj.len hl)
  unfold Is;simp![e]
end My
namespace Sc
open Bd
structure Cl where
 f:Int
 l:Int
 m:Int
deriving Inhabited,DecidableEq
section
variable {ν:Type} [DecidableEq ν] (hd:Int->List ν) (m:Int->Int)
abbrev St (ν:Type):=List Cl×Option (List ν×Int)
def ext (F:List Cl) (t v:Int):List Cl:=F.dropLast++[⟨(F.getLast?.getD default).f,t,v⟩]
def stp (t:Int) (s:St ν):St ν:=(if hd t=[] then s.1 else if s.2=some (hd t,m t) then ext s.1 t (m t) else s.1++[⟨t,t,m t⟩],some (hd t,m t))
def scan:Nat->Int->St ν->St ν
 |0,_,s=>s
 |n+1,t,s=>scan n (t+1) (stp hd m t s)
theorem scan_add:∀(a b:Nat) (t:Int) (s:St ν),scan hd m (a+b) t s=scan hd m b (t+a) (scan hd m a t s)
 |0,b,t,s=>by simp[scan]
 |a+1,b,t,s=>by
  rw[show a+1+b=(a+b)+1 by lia,scan,scan,scan_add a b]
  congr 1
  lia
def ext_snoc (G:List Cl) (c:Cl) (t v:Int):ext (G++[c]) t v=G++[⟨c.f,t,v⟩]:=by unfold ext;simp
theorem scan_nil:∀(n:Nat) (t:Int) (F:List Cl) (k:Option (List ν×Int)),(∀x,t<=x->x<t+n->hd x=[])->(scan hd m n t (F,k)).1=F/\(0<n->∃v,(scan hd m n t (F,k)).2=some ([],v))
 |0,t,F,k,_=>⟨rfl,fun h=>absurd h (by lia)⟩
 |n+1,t,F,k,h=>by
  have h0:=h t (by lia) (by lia)
  have e:stp hd m t (F,k)=(F,some ([],m t)):=by unfold stp;simp[h0]
  rw[scan,e];have ih:=scan_nil n (t+1) F (some ([],m t)) fun x h1 h2=>h x (by lia) (by lia)
  refine⟨ih.1,fun _=>?_⟩
  by_cases hn:0<n
  .exact ih.2 hn
  .have:n=0:=by lia
   subst this;exact⟨m t,rfl⟩
theorem MO {h0:List ν} {m0:Int} (hne:h0≠[]) (G:List Cl) (a:Int):∀(n:Nat) (t u:Int),(∀x,t<=x->x<t+n->hd x=h0/\m x=m0)->scan hd m n t (G++[⟨a,u,m0⟩],some (h0,m0))=(G++[⟨a,if n=0 then u else t+n-1,m0⟩],some (h0,m0))
 |0,t,u,_=>by simp[scan]
 |n+1,t,u,h=>by
  obtain⟨e1,e2⟩:=h t (by lia) (by lia)
  have e:stp hd m t (G++[⟨a,u,m0⟩],some (h0,m0))=(G++[⟨a,t,m0⟩],some (h0,m0)):=by
   unfold stp;simp only[e1,e2,hne,Bx,By];rw[ext_snoc]
  rw[scan,e,MO hne G a n (t+1) t fun x h1 h2=>h x (by lia) (by lia)]
  congr 3
  by_cases hn:n=0
  .subst hn;simp
  .rw[Ac hn,Ac (by lia)]
   congr 1
   lia
def MP {h0:List ν} {m0:Int} (hne:h0≠[]) (F:List Cl) (k:Option (List ν×Int)) {n:Nat} (hn:0<n) (t:Int) (h:∀x,t<=x->x<t+n->hd x=h0/\m x=m0) (hk:k≠some (h0,m0)):scan hd m n t (F,k)=(F++[⟨t,t+n-1,m0⟩],some (h0,m0)):=by
 obtain⟨n,rfl⟩:∃j,n=j+1:=⟨n-1,by lia⟩
 obtain⟨e1,e2⟩:=h t (by lia) (by lia)
 have e:stp hd m t (F,k)=(F++[⟨t,t,m0⟩],some (h0,m0)):=by
  unfold stp;simp only[e1,e2,hne,hk,Bx]
 rw[scan,e,MO hd m hne F t n (t+1) t fun x h1 h2=>h x (by lia) (by lia)]
 congr 3
 by_cases hn:n=0
 .subst hn;simp
 .rw[Ac hn]
  congr 1
  lia
def cls (ps:List (Int×Int)):List Cl:=(ps.filter fun p=>decide (hd p.1≠[])).map fun p=>⟨p.1,p.2-1,m p.1⟩
structure Bor (B:List Int):Prop where
 up:B.Pairwise (· < ·)
 seg:∀p∈prs B,∀x,p.1<=x->x<p.2->hd x=hd p.1/\(hd p.1≠[]->m x=m p.1)
 new:∀b∈B,hd b=[]\/(hd (b-1),m (b-1))≠(hd b,m b)
def Bor.tail {a:Int} {r:List Int} (h:Bor hd m (a::r)):Bor hd m r:=by
 refine⟨(B2.mp h.up).2,fun p hp=>h.seg p ?_,fun b hb=>h.new b (Am _ hb)⟩
 cases r with
 |nil=>cases hp
 |cons b r=>exact Am _ hp
theorem Hj:∀(r:List Int) (a:Int) (F:List Cl) (k:Option (List ν×Int)),Bor hd m (a::r)->(hd a=[]\/k≠some (hd a,m a))->
  ∃k',scan hd m ((a::r).getLast (by simp)-a).toNat a (F,k)=(F++cls hd m (prs (a::r)),k')/\(r≠[]->k'=some (hd ((a::r).getLast (by simp)-1),m ((a::r).getLast (by simp)-1))\/∃v,k'=some ([],v))/\(r=[]->k'=k)
 | [],a,F,k,_,_=>⟨k,by simp[scan,prs,cls],fun h=>absurd rfl h,fun _=>rfl⟩
 |b::r,a,F,k,h,hk=>by
  have hab:a<b:=(B2.mp h.up).1 b Aj;have hbz:b<=(b::r).getLast (by simp):=by
   rcases Ae.mp (Dl (l:=b::r) (by simp)) with e|e
   .rw[e];exact Cq _
   .exact Int.le_of_lt ((B2.mp h.tail.up).1 _ e)
  have sg:=h.seg (a,b) Aj;have e0:((a::b::r).getLast (by simp)-a).toNat=(b-a).toNat+((b::r).getLast (by simp)-b).toNat:=by
   rw[List.getLast_cons (by simp)];lia
  rw[e0,scan_add];have ea:a+((b-a).toNat:Int)=b:=by lia
  rw[ea];have pr:prs (a::b::r)=(a,b)::prs (b::r):=rfl
  by_cases he:hd a=[]
  .obtain⟨q1,q2⟩:=scan_nil hd m (b-a).toNat a F k fun x h1 h2=>by rw[(sg x h1 (by lia)).1];exact he
   obtain⟨v,q2⟩:=q2 (by lia)
   have q:scan hd m (b-a).toNat a (F,k)=(F,some ([],v)):=Prod.ext q1 q2;rw[q];obtain⟨k',e,l1,l2⟩:=Hj r b F (some ([],v)) h.tail (by
    by_cases hb:hd b=[]
    .exact .inl hb
    .exact .inr fun z=>hb (by injection z with z;injection z with z1 z2;exact z1.symm))
   refine⟨k',?_,fun _=>?_,fun z=>by cases z⟩
   .rw[e,pr];unfold cls;simp[he]
   .by_cases hr:r=[]
    .exact .inr ⟨v,l2 hr⟩
    .rw[List.getLast_cons (by simp)];exact l1 hr
  .have q:=MP hd m (h0:=hd a) (m0:=m a) he F k (n:=(b-a).toNat) (by lia) a (fun x h1 h2=>⟨(sg x h1 (by lia)).1,(sg x h1 (by lia)).2 he⟩) (hk.resolve_left he)
   rw[ea]at q;rw[q];obtain⟨s1,s2⟩:=sg (b-1) (by lia) (by lia)
   have kb:(hd a,m a)=(hd (b-1),m (b-1)):=by rw[s1,s2 he]
   obtain⟨k',e,l1,l2⟩:=Hj r b (F++[⟨a,b-1,m a⟩]) (some (hd a,m a)) h.tail (by
    rcases h.new b (by simp) with z|z
    .exact .inl z
    .refine .inr fun y=>z ?_
     injection y with y
     rw[<-kb];exact y)
   refine⟨k',?_,fun _=>?_,fun z=>by cases z⟩
   .rw[e,pr];unfold cls;simp[he]
   .by_cases hr:r=[]
    .subst hr
     rw[l2 rfl,kb];exact .inl rfl
    .rw[List.getLast_cons (by simp)];exact l1 hr
theorem prs_snoc:∀(B:List Int) (h:B≠[]) (z:Int),prs (B++[z])=prs B++[(B.getLast h,z)]
 | [],h,_=>absurd rfl h
 | [a],_,z=>rfl
 |a::b::r,_,z=>by
  have:=prs_snoc (b::r) (by simp) z
  show (a,b)::prs ((b::r)++[z])=_;rw[this];rfl
def cls_app (p q:List (Int×Int)):cls hd m (p++q)=cls hd m p++cls hd m q:=by unfold cls;rw[List.filter_append,Ax]
def scan_all {a:Int} {r:List Int} (h:Bor hd m (a::r)) {lo hi:Int} (h1:lo<=a) (h2:(a::r).getLast (by simp)<=hi) (b1:∀x,x<a->hd x=[]) (b2:∀x,(a::r).getLast (by simp)<=x->hd x=[]):
  (scan hd m (hi-lo).toNat lo ([],none)).1=cls hd m (prs (a::r)):=by
 have haz:a<=(a::r).getLast (by simp):=by
  rcases Ae.mp (Dl (l:=a::r) (by simp)) with e|e
  .rw[e];exact Cq _
  .exact Int.le_of_lt ((B2.mp h.up).1 _ e)
 have e0:(hi-lo).toNat=(a-lo).toNat+(((a::r).getLast (by simp)-a).toNat+(hi-(a::r).getLast (by simp)).toNat):=by lia
 rw[e0,scan_add,scan_add];obtain⟨q1,q2⟩:=scan_nil hd m (a-lo).toNat lo [] none fun x _ h2=>b1 x (by lia)
 have ea:lo+((a-lo).toNat:Int)=a:=by lia
 have ez:a+(((a::r).getLast (by simp)-a).toNat:Int)=(a::r).getLast (by simp):=by lia
 rw[ea,ez];generalize hs:scan hd m (a-lo).toNat lo ([],none)=s at q1 q2;have hk:hd a=[]\/s.2≠some (hd a,m a):=by
  by_cases he:hd a=[]
  .exact .inl he
  .refine .inr fun z=>?_
   by_cases hn:0<(a-lo).toNat
   .obtain⟨v,q⟩:=q2 hn
    rw[q]at z;injection z with z
    injection z with z1 z2
    exact he z1.symm
   .have:(a-lo).toNat=0:=by lia
    rw[this]at hs;have:s=([],none):=hs.symm;rw[this]at z;cases z
 obtain⟨s1,s2⟩:=s;have q1:s1=[]:=q1;subst q1;obtain⟨k',e,_,_⟩:=Hj hd m r a [] s2 h hk;rw[e];exact (scan_nil hd m _ _ _ k' fun x h1 h2=>b2 x h1).1
def scan_cut {a z:Int} {r:List Int} (h:Bor hd m ((a::r)++[z])) {lo hi:Int} (h1:lo<=a) (h2:(a::r).getLast (by simp)<hi) (h3:hi<=z) (b1:∀x,x<a->hd x=[]) (ne:hd ((a::r).getLast (by simp))≠[]):
  (scan hd m (hi-lo).toNat lo ([],none)).1=cls hd m (prs (a::r))++[⟨(a::r).getLast (by simp),hi-1,m ((a::r).getLast (by simp))⟩]:=by
 have hb:Bor hd m (a::r):=by
  refine⟨(Dz.mp h.up).1,fun p hp=>h.seg p ?_,fun b hb=>h.new b (Cu _ hb)⟩
  rw[prs_snoc (a::r) (by simp) z]
  exact Cu _ hp
 have sg:=h.seg ((a::r).getLast (by simp),z) (by rw[prs_snoc (a::r) (by simp) z];simp)
 have haz:a<=(a::r).getLast (by simp):=by
  rcases Ae.mp (Dl (l:=a::r) (by simp)) with e|e
  .rw[e];exact Cq _
  .exact Int.le_of_lt ((B2.mp hb.up).1 _ e)
 have e0:(hi-lo).toNat=(a-lo).toNat+(((a::r).getLast (by simp)-a).toNat+(hi-(a::r).getLast (by simp)).toNat):=by lia
 rw[e0,scan_add,scan_add];obtain⟨q1,q2⟩:=scan_nil hd m (a-lo).toNat lo [] none fun x _ h2=>b1 x (by lia)
 have ea:lo+((a-lo).toNat:Int)=a:=by lia
 have ez:a+(((a::r).getLast (by simp)-a).toNat:Int)=(a::r).getLast (by simp):=by lia
 rw[ea,ez];generalize hs:scan hd m (a-lo).toNat lo ([],none)=s at q1 q2;have hk:hd a=[]\/s.2≠some (hd a,m a):=by
  by_cases he:hd a=[]
  .exact .inl he
  .refine .inr fun z=>?_
   by_cases hn:0<(a-lo).toNat
   .obtain⟨v,q⟩:=q2 hn
    rw[q]at z;injection z with z
    injection z with z1 z2
    exact he z1.symm
   .have:(a-lo).toNat=0:=by lia
    rw[this]at hs;have:s=([],none):=hs.symm;rw[this]at z;cases z
 obtain⟨s1,s2⟩:=s;have q1:s1=[]:=q1;subst q1;obtain⟨k',e,l1,l2⟩:=Hj hd m r a [] s2 hb hk;rw[e];generalize hL:(a::r).getLast (by simp)=L at*
 have hk2:k'≠some (hd L,m L):=by
  by_cases hr:r=[]
  .subst hr
   have:L=a:=hL.symm;subst this;rw[l2 rfl];exact hk.resolve_left ne
  .rcases l1 hr with q|⟨v,q⟩
   .rw[q]
    intro y;injection y with y
    rcases h.new L (by rw[<-hL];exact Cu _ (Dl _)) with w|w
    .exact ne w
    .exact w y
   .rw[q]
    intro y;injection y with y
    injection y with y1 y2
    exact ne y1.symm
 have q:=MP hd m (h0:=hd L) (m0:=m L) ne ([]++cls hd m (prs (a::r))) k' (n:=(hi-L).toNat) (by lia) L (fun x h1 h2=>⟨(sg x h1 (by show x<z;lia)).1,(sg x h1 (by show x<z;lia)).2 ne⟩) hk2
 rw[q,show L+((hi-L).toNat:Int)=hi by lia]
 rfl
end
end Sc
namespace My
open PySem L2 L3
abbrev Cl:=Sc.Cl
abbrev Cl.enc (c:Cl):V3:= .tup [.int c.f,.int c.l,.int c.m]
def yL (js:List J) (t:Int):Bool:=js.any fun j=>decide (j.f<=t) && decide (t<=j.l)
def y8 (js:List J) (rows:List (Int×Int)) (rest:Int):List Cl:=((Bd.prs (Bd.srt (zQ rows js))).filter fun p=>yL js p.1).map fun p=>⟨p.1,p.2-1,Cal.at_ rows rest p.1⟩
def MQ {js:List J} (hj:LoadOk js) (t:Int) (h:H3):Gg [.lst (js.map J.enc),.int t] h=.ok (.v (.bl (yL js t))) h:=by
 have hc:GM [some (.v (.lst (js.map J.enc))),some (.v (.int t))] h=.ok (.m (.lst ((js.map fun j=>decide (j.f<=t) && decide (t<=j.l)).map .bl))) h:=by
  unfold GM;rw[Ca]
  refine Jv (x:= .lst (js.map J.enc)) (enc:=J.enc) (fun s=> ∃a b c d e,s=[a,b,c,d,e,some (.v (.int t))]) _ (by simp![]) rfl (by have:=hj.len;lia) ⟨none,none,none,none,none,rfl⟩ ?_
  rintro j s hjm ⟨a,b,c,d,e,rfl⟩
  refine⟨_,.v (.bl (decide (j.f<=t) && decide (t<=j.l))),by (simp![])<;>rfl,⟨_,_,_,_,_,rfl⟩,?_,rfl⟩
  by_cases h1:j.f<=t
  ·(simp![h1,Bk h1,Dk])<;>rfl
  ·(simp![h1,Be h1,Cv])<;>rfl
 have e:(js.map fun j=>decide (j.f<=t) && decide (t<=j.l)).any id=yL js t:=by rw[List.any_map];rfl
 simp![Gg,IW,hc,Jw,e]
def TY {js:List J} (hj:LoadOk js) {rows:List (Int×Int)} (hl:rows.length<=16) (rest:Int) (h:H3):yR [.lst (js.map J.enc),calV rows rest] h=.ok (.m (.lst ((y8 js rows rest).map Cl.enc))) h:=by
 show Is h _ _;unfold yR GN Ja
 refine y9 rfl ?_
 refine zG (by (simp![TN hj (.inl rfl)])<;>rfl) ?_
 refine zG (by (simp![])<;>rfl) ?_
 refine zG (by (simp![TX hj hl])<;>rfl) ?_
 refine zG (by (simp![])<;>rfl) ?_
 have hbl:(Bd.srt (zQ rows js)).length<64:=by
  have:=(CF (zN (zQ rows js))).1.length_eq;have:=J7 (js:=js) (rows:=rows) hj.len hl;unfold Bd.srt;lia
 unfold y8;generalize Bd.srt (zQ rows js)=bs at hbl ⊢;have hpl:(Bd.prs bs).length<=64:=by rw[<-Bd.prs_zip,List.length_zip];lia
 have hd:zV (bs.map V3.int) (some 1) none=(bs.drop 1).map .int:=by have:=M5 (bs.map V3.int) 1;rw[List.map_drop];exact this
 have hz:((bs.map V3.int).zip ((bs.drop 1).map V3.int)).map (fun q=>V3.tup [q.1,q.2])=(Bd.prs bs).map zf:=by
  rw[List.zip_map,Ca,Bd.prs_zip];rfl
 refine it_R (l:=Bd.prs bs) (enc:=zf) (its:=[.lst (bs.map .int),.lst ((bs.drop 1).map .int)]) (ok:=fun _=>True/\True) (by (simp![HW,yn,qo,qp,qt,oSl,hd,hz])<;>rfl) ⟨trivial,trivial⟩ (fun i s=> ∃y4 y5,s=[some (.v (.lst (js.map J.enc))),some (.v (calV rows rest)),some (.m (.lst (((((Bd.prs bs).take i).filter fun p=>yL js p.1).map fun p=>(⟨p.1,p.2-1,Cal.at_ rows rest p.1⟩:Cl)).map Cl.enc))),some (.v (.lst (bs.map .int))),y4,y5]) ⟨none,none,rfl⟩ ?_ ?_
 .rintro i p s hi ⟨y4,y5,rfl⟩
  have hil:i<(Bd.prs bs).length:=(An.1 hi).1;rw[M4 hi,List.filter_append,Ax,Ax];have hap:∀y,yZ ((((((Bd.prs bs).take i).filter fun p=>yL js p.1).map fun p=>(⟨p.1,p.2-1,Cal.at_ rows rest p.1⟩:Cl)).map Cl.enc)) [y]=some ((((((Bd.prs bs).take i).filter fun p=>yL js p.1).map fun p=>(⟨p.1,p.2-1,Cal.at_ rows rest p.1⟩:Cl)).map Cl.enc)++[y],.non):=fun y=>mAppend_ok (by
   rw[Ah,Ah];have h1:=Eo (fun p:Int×Int=>yL js p.1) ((Bd.prs bs).take i)
   rw[Bc]at h1;have:=yb;lia)
  generalize ((((Bd.prs bs).take i).filter fun p=>yL js p.1).map fun p=>(⟨p.1,p.2-1,Cal.at_ rows rest p.1⟩:Cl)).map Cl.enc=acc at hap ⊢
  by_cases hw:yL js p.1=true
  .refine⟨_,by (simp![MQ hj,hw,CJ,BC,noAt,TM,hap])<;>rfl,⟨some (.v (.int p.1)),some (.v (.int p.2)),?_⟩⟩
   rw[Fh (p:=fun p:Int×Int=>yL js p.1) hw];rfl
  .have hw':yL js p.1=false:=by simpa using hw
   refine⟨_,by (simp![MQ hj,hw'])<;>rfl,⟨some (.v (.int p.1)),some (.v (.int p.2)),?_⟩⟩
   rw[En (p:=fun p:Int×Int=>yL js p.1) (by simp[hw'])];simp
 .rintro s ⟨y4,y5,rfl⟩
  rw[E5];unfold Is;simp![]
abbrev yU (cs:List Cl) (k:Nat):Cl:=cs.getD k default
def wn (cs:List Cl) (j:J) (k:Nat):Bool:=decide (j.f<=(yU cs k).f) && decide ((yU cs k).l<=j.l)
def clen (cs:List Cl) (k:Nat):Int:=(yU cs k).l-(yU cs k).f+1
def yQ (cs:List Cl) (j:J):List Nat:=(List.range cs.length).filter (wn cs j)
def TZ {cs:List Cl} {k:Nat} (h:k<cs.length):(cs.map Cl.enc).getD k V3.non=(yU cs k).enc:=by
 rw[C6,A9,zH h];unfold yU;rw[C6,zH h];rfl
def MR {cs:List Cl} {k:Nat} (h:k<cs.length):atI (cs.map Cl.enc) (k:Int)=some (yU cs k).enc:=by
 refine AA (j:=k) ?_
 rw[A9,zH h];unfold yU;rw[C6,zH h];rfl
def Ua (cs:List Cl) (hc:cs.length<=1000) (j:J) (h:H3):CU [j.enc,.lst (cs.map Cl.enc)] h=.ok (.m (.lst ((yQ cs j).map fun k:Nat=>.int (k:Int)))) h:=by
 have e:GP [some (.v j.enc),some (.v (.lst (cs.map Cl.enc)))] h=.ok (.m (.lst ((yQ cs j).map fun k:Nat=>.int (k:Int)))) h:=by
  unfold GP yQ;have ei:(List.range (cs.map Cl.enc).length).map (fun k=>V3.tup [.int (k:Nat),(cs.map Cl.enc).getD k .non])=(List.range cs.length).map fun k=>V3.tup [.int (k:Nat),(yU cs k).enc]:=by
   rw[Ah];exact List.map_congr_left fun k hk=>by rw[TZ (Bv.mp hk)]
  refine MB (l:=List.range cs.length) (enc:=fun k=>V3.tup [.int (k:Nat),(yU cs k).enc]) (its:=[.lst (cs.map Cl.enc)]) (ok:=fun _=>True) (fun s=> ∃a b,s=[a,b,some (.v j.enc)]) (wn cs j) (fun k:Nat=>.int (k:Int)) (by (simp![FC,yn,ei])<;>rfl) trivial (by rw[B9];lia) ⟨none,none,rfl⟩ ?_
  rintro k s hk ⟨a,b,rfl⟩
  refine⟨_,by (simp![])<;>rfl,⟨_,_,rfl⟩,?_,fun _=>⟨_,by (simp![])<;>rfl,rfl⟩⟩
  unfold wn
  by_cases h1:j.f<=(yU cs k).f
  ·(simp![h1,Bk h1,Dk])<;>rfl
  ·(simp![h1,Be h1,Cv])<;>rfl
 simp![CU,Jg,e]
end My
namespace Cal
theorem chg_lt (rest:Int):∀(rows:List P) (st s:Int),Pos rows->s∈chg rest rows st->st<s/\s<=st+tot rows
 | [],_,_,_,h=>by cases h
 |p::r,st,s,hp,h=>by
  have h1:=hp.head;have h2:=MD hp.tail;unfold chg at h
  rcases Aw.mp h with h|h
  .split at h
   .cases h
   .have:=As.mp h
    show _/\s<=st+(p.1+tot r);lia
  .have:=chg_lt rest r (st+p.1) s hp.tail h
   show _/\s<=st+(p.1+tot r);lia
theorem chg_new (rest:Int):∀(rows:List P) (st s:Int),Pos rows->s∈chg rest rows st->at_ rows rest (s-1-st)≠at_ rows rest (s-st)
 | [],_,_,_,h=>by cases h
 |p::r,st,s,hp,h=>by
  have h1:=hp.head;unfold chg at h;show (if s-1-st<p.1 then p.2 else at_ r rest (s-1-st-p.1))≠(if s-st<p.1 then p.2 else at_ r rest (s-st-p.1))
  rcases Aw.mp h with h|h
  .split at h
   .cases h
   .rename_i hn
    have:=As.mp h;rw[Aa (by lia),Ac (by lia),show s-st-p.1=0 by lia]
    exact fun z=>hn z.symm
  .have a:=chg_lt rest r (st+p.1) s hp.tail h
   have:=chg_new rest r (st+p.1) s hp.tail h;rw[Ac (by lia),Ac (by lia),show s-1-st-p.1=s-1-(st+p.1) by lia,show s-st-p.1=s-(st+p.1) by lia]
   exact this
theorem tot_le (b:Int):∀rows:List P,(∀p∈rows,p.1<=b)->tot rows<=rows.length*b
 | [],_=>by simp[tot]
 |p::r,h=>by
  have h1:=h p Aj;have h2:=tot_le b r fun q hq=>h q (Am _ hq)
  show p.1+tot r<=((r.length+1:Nat):Int)*b;rw[Int.natCast_add,Int.add_mul];lia
end Cal
namespace My
open PySem L2 L3
section
variable {js:List J} {rows R:List (Int×Int)} {rest:Int}
def inJ (t:Int) (j:J):Bool:=decide (j.f<=t) && decide (t<=j.l)
def inJ_iff {t:Int} {j:J}:inJ t j=true↔j.f<=t/\t<=j.l:=by unfold inJ;simp
def zS (js:List J) (t:Int):List (List Nat):=(js.filter (inJ t)).map J.nm
def mN (R:List (Int×Int)) (rest t:Int):Int:=Cal.at_ R rest t
def hd_mem {t:Int} {n:List Nat}:n∈zS js t↔∃j∈js,(j.f<=t/\t<=j.l)/\j.nm=n:=by
 unfold zS;rw[B3]
 constructor
 .rintro⟨j,h,e⟩
  obtain⟨h1,h2⟩:=C7.mp h;exact⟨j,h1,inJ_iff.mp h2,e⟩
 .rintro⟨j,h1,h2,e⟩
  exact⟨j,C7.mpr ⟨h1,inJ_iff.mpr h2⟩,e⟩
def Ub {t:Int}:zS js t=[]↔yL js t=false:=by
 unfold zS yL;rw[List.map_eq_nil_iff,Ga,List.any_eq_false];rfl
def Hk {t:Int} (h:zS js t≠[]):∃j∈js,j.f<=t/\t<=j.l:=by
 obtain⟨n,hn⟩:=List.exists_mem_of_ne_nil _ h;obtain⟨j,h1,h2,_⟩:=hd_mem.mp hn;exact⟨j,h1,h2⟩
def MS (hj:LoadOk js) {a b:J} (ha:a∈js) (hb:b∈js) (e:a.nm=b.nm):a=b:=by
 have nd:=hj.nd;clear hj
 induction js with
 |nil=>cases ha
 |cons x r ih=>
  rw[Al,Bu]at nd
  rcases Ae.mp ha with ea|ha'<;>rcases Ae.mp hb with eb|hb'
  .rw[ea,eb]
  .exact absurd (by rw[<-ea,e];exact List.mem_map_of_mem (f:=J.nm) hb') nd.1
  .exact absurd (by rw[<-eb,<-e];exact List.mem_map_of_mem (f:=J.nm) ha') nd.1
  .exact ih ha' hb' nd.2
def Hl {j:J} (hj:j∈js) (h:j.f<=j.l):j.f∈Bd.srt (zQ R js)/\j.l+1∈Bd.srt (zQ R js)/\∀s∈Cal.stops R 0,j.f<s->s<=j.l->s∈Bd.srt (zQ R js):=
 ⟨(Bd.srt_mem _ _).mpr (bdL_mem.mpr ⟨j,hj,h,.inl rfl⟩),(Bd.srt_mem _ _).mpr (bdL_mem.mpr ⟨j,hj,h,.inr (.inl rfl)⟩),fun s hs a b=>(Bd.srt_mem _ _).mpr (bdL_mem.mpr ⟨j,hj,h,.inr (.inr ⟨hs,a,b⟩)⟩)⟩
def Uc (hj:LoadOk js) (hp:Cal.Pos rows):Sc.Bor (zS js) (mN rows rest) (Bd.srt (zQ (Cal.kform rest rows) js)) where
 up:=Bd.srt_up _
 seg p hp' x h1 h2:=by
  have a:=Bd.prs_up (Bd.srt_up _) p hp';have sm:∀j∈js,inJ x j=inJ p.1 j:=fun j hjm=>by
   rw[Co,inJ_iff,inJ_iff]
   by_cases h:j.f<=j.l
   .obtain⟨b1,b2,_⟩:=Hl (R:=Cal.kform rest rows) hjm h
    have:=a.2.2.2 _ b1;have:=a.2.2.2 _ b2;lia
   .lia
  refine⟨?_,fun ne=>?_⟩
  .unfold zS
   rw[List.filter_congr sm]
  .obtain⟨j,hjm,w1,w2⟩:=Hk ne
   have w:=inJ_iff.mp ((sm j hjm).trans (inJ_iff.mpr ⟨w1,w2⟩));obtain⟨_,_,b3⟩:=Hl (R:=Cal.kform rest rows) hjm (by lia)
   unfold mN;rw[<-Cal.kform_at rest rows x hp,<-Cal.kform_at rest rows p.1 hp]
   refine Bd.at_same _ rest 0 p.1 x (Cal.kform_pos rest rows hp) h1 fun s hs=>?_
   rw[Int.add_zero,Int.add_zero]
   by_cases k:s<=p.1
   .exact .inl k
   .by_cases k2:x<s
    .exact .inr k2
    .have:=a.2.2.2 s (b3 s hs (by lia) (by lia))
     lia
 new b hb:=by
  obtain⟨j,hjm,hf,k⟩:=bdL_mem.mp ((Bd.srt_mem _ _).mp hb)
  refine .inr fun z=>?_
  injection z with z1 z2
  rcases k with rfl|rfl|⟨k1,k2,k3⟩
  .have:j.nm∈zS js (j.f-1):=by rw[z1];exact hd_mem.mpr ⟨j,hjm,⟨Cq _,hf⟩,rfl⟩
   obtain⟨i,hi,h2,e⟩:=hd_mem.mp this;have:=MS hj hi hjm e;subst this;lia
  .have:j.nm∈zS js (j.l+1):=by rw[<-z1];exact hd_mem.mpr ⟨j,hjm,⟨by lia,by lia⟩,rfl⟩
   obtain⟨i,hi,h2,e⟩:=hd_mem.mp this;have:=MS hj hi hjm e;subst this;lia
  .rw[Cal.stops_kform rest rows hp]at k1
   have:=Cal.chg_new rest rows 0 b hp k1;rw[Int.sub_zero,Int.sub_zero]at this;exact this z2
def Ud (hp:Cal.Pos rows):y8 js (Cal.kform rest rows) rest=Sc.cls (zS js) (mN rows rest) (Bd.prs (Bd.srt (zQ (Cal.kform rest rows) js))):=by
 unfold y8 Sc.cls;have:(fun p:Int×Int=>yL js p.1)=fun p=>decide (zS js p.1≠[]):=by
  funext p
  rw[Co,decide_eq_true_iff,ne_eq,Ub];simp
 rw[this]
 refine List.map_congr_left fun p _=>?_
 unfold mN;rw[Cal.kform_at rest rows p.1 hp]
def Ue (hr:RowsOk rows):Cal.tot rows<=(rows.headD (0,0)).1+45:=by
 cases rows with
 |nil=>show (0:Int)<=0+45;decide
 |cons p r=>
  have h1:=Cal.tot_le 9 r hr.few;have h2:=hr.len;rw[Az]at h2;show p.1+Cal.tot r<=p.1+45;lia
def Ug {base:Int} (sh:Shape base js) {x:Int} (h:x∈Bd.srt (zQ R js)):max 0 (base-4)<=x:=by
 obtain⟨j,hm,hf,k⟩:=bdL_mem.mp ((Bd.srt_mem _ _).mp h);have:=sh.f j hm;lia
def Uh (hr:RowsOk rows) {base:Int} (hb:base=(rows.headD (0,0)).1) (sh:Shape base js) {x:Int} (h:x∈Bd.srt (zQ (Cal.kform rest rows) js)):x<=base+46\/(∃j,js.head? =some j/\base+200<=j.l/\x=j.l+1):=by
 have hp:Cal.Pos rows:=fun p h=>(hr.one p h).1
 have ht:=Ue hr;obtain⟨j,hm,hf,k⟩:=bdL_mem.mp ((Bd.srt_mem _ _).mp h);have s:=sh.f j hm
 rcases k with rfl|rfl|⟨k1,k2,k3⟩
 .exact .inl (by lia)
 .cases js with
  |nil=>cases hm
  |cons a r=>
   rcases Ae.mp hm with rfl|hm'
   .rcases sh.hd j rfl with q|q
    .exact .inl (by lia)
    .exact .inr ⟨j,rfl,q,rfl⟩
   .have:=sh.l j hm'
    exact .inl (by lia)
 .rw[Cal.stops_kform rest rows hp]at k1
  have:=Cal.chg_lt rest rows 0 x hp k1;exact .inl (by lia)
end
section
variable {js:List J} {rows:List (Int×Int)} {rest:Int}
def zW (js:List J) (base:Int) (F:List Cl):List Cl:=match js with
 | []=>F
 |j::_=>if base+200<=j.l then F.dropLast++[⟨(F.getLast?.getD default).f,j.l,(F.getLast?.getD default).m⟩] else F
def yP (js:List J) (rows:List (Int×Int)) (rest base:Int) (n:Nat):Sc.St (List Nat):=Sc.scan (zS js) (mN rows rest) n (max 0 (base-5)) ([],none)
def Ui:∀{B:List Int} {z:Int},B.Pairwise (· < ·)->z∈B->(∀x∈B,x<=z)->∃B',B=B'++[z]:=fun {B z} h hz hx=>by
 rcases Em B with rfl|⟨B',w,rfl⟩
 .cases hz
 .rw[D6] at*
  have e:=hx w (by simp)
  rcases Aw.mp hz with q|q
  .have:=(Dz.mp h).2.2 z q w (by simp)
   lia
  .have:=As.mp q
   exact⟨B',by rw[this]⟩
def MT {B:List Int} (h:B.Pairwise (· < ·)) (hn:B≠[]) {x:Int} (hx:x∈B):x<=B.getLast hn:=by
 have e:B.dropLast++[B.getLast hn]=B:=List.dropLast_concat_getLast hn;rw[<-e]at h;have hx':x∈B.dropLast++[B.getLast hn]:=by rw[e];exact hx
 rcases Aw.mp hx' with q|q
 .have:=(Dz.mp h).2.2 x q (B.getLast hn) (by simp)
  lia
 .rw[As.mp q];exact Cq _
def Uj (hj:LoadOk js) (hr:RowsOk rows) {base:Int} (hb:base=(rows.headD (0,0)).1) (h0:0<=base) (sh:Shape base js):
  zW js base (yP js rows rest base (base+200-max 0 (base-5)).toNat).1=y8 js (Cal.kform rest rows) rest:=by
 have hp:Cal.Pos rows:=fun p h=>(hr.one p h).1
 rw[Ud hp];have bo:=Uc (rest:=rest) hj hp;have lo:=fun {x}=>Ug (R:=Cal.kform rest rows) sh (x:=x)
 have hi:=fun {x}=>Uh (rest:=rest) hr hb sh (x:=x)
 have bi:=fun {j} (h:j∈js)=>Hl (R:=Cal.kform rest rows) h
 unfold yP;generalize Bd.srt (zQ (Cal.kform rest rows) js)=B at*;have far:∀j,js.head? =some j->base+200<=j.l->j.l+1∈B/\j.f∈B/\j.f<=base+25:=fun j hjj hl=>by
  have hm:=Fy hjj;have:=sh.f j hm;obtain⟨b1,b2,_⟩:=bi hm (by lia)
  exact⟨b2,b1,this.2⟩
 cases hB:B with
 |nil=>
  have e:∀x,zS js x=[]:=fun x=>by
   by_cases hn:zS js x=[]
   .exact hn
   .obtain⟨j,hm,h1,h2⟩:=Hk hn
    have:=(bi hm (by lia)).1
    rw[hB]at this;cases this
  rw[(Sc.scan_nil (zS js) (mN rows rest) _ _ [] none fun x _ _=>e x).1]
  unfold zW;cases js with
  |nil=>rfl
  |cons j r=>
   simp only
   split
   .rename_i hl
    have:=(far j rfl hl).1;rw[hB]at this;cases this
   .rfl
 |cons a r=>
  rw[hB]at bo;have ha:a∈B:=by rw[hB];exact Aj
  have b1:∀x,x<a->zS js x=[]:=fun x hx=>by
   by_cases hn:zS js x=[]
   .exact hn
   .obtain⟨j,hm,h1,h2⟩:=Hk hn
    have q:=(bi hm (by lia)).1
    rw[hB]at q
    rcases Ae.mp q with q|q
    .lia
    .have:=(B2.mp bo.up).1 _ q
     lia
  have la:=lo ha
  by_cases hf:∃j,js.head? =some j/\base+200<=j.l
  .obtain⟨j,hjj,hl⟩:=hf
   obtain⟨f1,f2,f3⟩:=far j hjj hl;obtain⟨B',hB'⟩:=Ui bo.up (z:=j.l+1) (by rw[<-hB];exact f1) fun x hx=>by
    rcases hi (x:=x) (by rw[hB];exact hx) with q|⟨i,hi1,hi2,hi3⟩
    .lia
    .rw[hjj]at hi1
     cases hi1;lia
   have hm:=Fy hjj;have fB:j.f∈B':=by
    rw[hB,hB']at f2
    rcases Aw.mp f2 with q|q
    .exact q
    .have:=As.mp q
     lia
   cases B' with
   |nil=>cases fB
   |cons a' r'=>
    have ea:a'=a:=by have:=hB';injection this with x y;exact x.symm
    subst ea;rw[hB']at bo ⊢;have up':=(Dz.mp bo.up).1;have hL:(a'::r').getLast (by simp)∈B:=by rw[hB,hB'];exact Cu _ (Dl _)
    have hL2:(a'::r').getLast (by simp)<j.l+1:=(Dz.mp bo.up).2.2 _ (Dl _) _ (by simp)
    have hL3:(a'::r').getLast (by simp)<=base+46:=by
     rcases hi hL with q|⟨i,hi1,hi2,hi3⟩
     .exact q
     .rw[hjj]at hi1
      cases hi1;lia
    have hL4:=MT up' (by simp) fB
    have ne:zS js ((a'::r').getLast (by simp))≠[]:=fun z=>by
     have:j.nm∈zS js ((a'::r').getLast (by simp)):=hd_mem.mpr ⟨j,hm,⟨hL4,by lia⟩,rfl⟩
     rw[z]at this;cases this
    rw[Sc.scan_cut (zS js) (mN rows rest) bo (lo:=max 0 (base-5)) (hi:=base+200) (by lia) (by lia) (by lia) b1 ne,Sc.prs_snoc (a'::r') (by simp),Sc.cls_app]
    generalize (a'::r').getLast (by simp)=L at*
    generalize Sc.cls (zS js) (mN rows rest) (Bd.prs (a'::r'))=C;have e2:Sc.cls (zS js) (mN rows rest) [(L,j.l+1)]=[⟨L,j.l,mN rows rest L⟩]:=by
     unfold Sc.cls;rw[Fh (by simpa using ne),List.filter_nil,Al,A4]
     show [(⟨L,j.l+1-1,_⟩:Sc.Cl)]=_;rw[show j.l+1-1=j.l by lia]
    rw[e2];unfold zW;cases js with
    |nil=>cases hjj
    |cons i r=>
     cases hjj;simp only;rw[Aa hl,Fz,List.getLast?_concat]
     rfl
  .have all:∀x∈a::r,x<=base+46:=fun x hx=>by
    rcases hi (x:=x) (by rw[hB];exact hx) with q|⟨i,hi1,hi2,hi3⟩
    .exact q
    .exact absurd ⟨i,hi1,hi2⟩ hf
   have hz:=all _ (Dl (l:=a::r) (by simp))
   rw[Sc.scan_all (zS js) (mN rows rest) bo (lo:=max 0 (base-5)) (hi:=base+200) (by lia) (by lia) b1 fun x hx=>by
    by_cases hn:zS js x=[]
    .exact hn
    .obtain⟨j,hm,h1,h2⟩:=Hk hn
     have q:=(bi hm (by lia)).2.1
     rw[hB]at q;have:=MT bo.up (by simp) q
     lia]
   unfold zW;cases js with
   |nil=>rfl
   |cons j r'=>
    simp only;rw[Ac fun z=>hf ⟨j,rfl,z⟩]
end
def Uk {js:List J} (hj:LoadOk js) (t:Int) (h:H3):FX [.lst (js.map J.enc),.int t] h=.ok (.m (.lst ((zS js t).map fun l=>.str (tx l)))) h:=by
 have e:GH [some (.v (.lst (js.map J.enc))),some (.v (.int t))] h=.ok (.m (.lst ((zS js t).map fun l=>.str (tx l)))) h:=by
  unfold GH zS;rw[Ca]
  refine Td (x:= .lst (js.map J.enc)) (enc:=J.enc) (fun s=> ∃a,s=[a,some (.v (.int t))]) (inJ t) _ (by simp![]) rfl (by have:=hj.len;lia) ⟨none,rfl⟩ ?_
  rintro j s _ ⟨a,rfl⟩
  refine⟨_,by (simp![])<;>rfl,⟨_,rfl⟩,?_,fun _=>⟨_,by (simp![])<;>rfl,rfl⟩⟩
  unfold inJ
  by_cases h1:j.f<=t
  ·(simp![h1,Bk h1,Dk])<;>rfl
  ·(simp![h1,Be h1,Cv])<;>rfl
 simp![FX,IH,e]
def Ul (rows:List (Int×Int)) (rest t:Int) (h:H3):FY [.lst (rows.map zf),.int rest,.int t] h=.ok (.v (.int (mN rows rest t))) h:=by
 show Is h _ _;unfold FY IJ II mN
 refine y9 rfl ?_
 refine it_E (l:=rows) (enc:=zf) (its:=[.lst (rows.map zf)]) (ok:=fun _=>True) (by (simp![iL,yn])<;>rfl) (fun i s h'=>h'=h/\∃e y3 y4,s=[some (.v (.lst (rows.map zf))),some (.v (.int rest)),some (.v (.int e)),y3,y4]/\Cal.at_ (rows.drop i) rest e=Cal.at_ rows rest t) (fun _ _ _ _=>trivial) ⟨rfl,t,none,none,rfl,by rw[El]⟩ ?_ ?_
 .rintro i p s h' hi ⟨rfl,e,y3,y4,rfl,hI⟩
  rw[BI hi,MF]at hI
  by_cases hq:e<p.1
  .rw[Aa hq]at hI
   refine .inr (.inl ⟨.v (.int p.2),_,by (simp![hq])<;>rfl,?_⟩)
   unfold Is;rw[hI]
  .rw[Ac hq]at hI
   exact .inl ⟨_,_,.inl (by (simp![hq])<;>rfl),rfl,e-p.1,_,_,rfl,hI⟩
 .rintro s h' ⟨rfl,e,y3,y4,rfl,hI⟩
  rw[Cf,MG]at hI;unfold Is;rw[<-hI]
  (simp![])<;>rfl
abbrev nmV (l:List (List Nat)):List V3:=l.map fun l=>.str (tx l)
abbrev heV (a:List (List Nat)) (m:Int):List V3:=[.lst (nmV a),.int m]
def kn:Option (List (List Nat)×Int)->Vl
 |none=>.m (.lst [])
 |some (a,m)=>.v (.lst (heV a m))
def Um {h:H3} {n:Nat} (a b:List (List Nat)):zA h (n+1) (.lst (nmV a)) (.lst (nmV b))=some (decide (a=b)):=QO (fun a b=>by rw[DS];congr 1;rw[decide_eq_decide];exact⟨Mx,congrArg tx⟩) a b
def Uo {s:S3} {h:H3} {f g:Rf} {a:List (List Nat)} {m:Int} {k:Option (List (List Nat)×Int)} (hf:rdm s h f=some (heV a m)) (hg:rdm s h g=some (match k with|none=>[] | some (b,w)=>heV b w)):yM s h f g=some (.v (.bl (decide (k=some (a,m))))):=by
 unfold yM qf;simp only[hf,hg];cases k with
 |none=>rfl
 |some q=>
  obtain⟨b,w⟩:=q;simp only[Az,Dx,By,yf,Um,DR,Bh]
  congr 3
  rw[Bool.and_true,Co];simp only[Ar,Bq,B0,Dh];exact⟨fun z=>⟨z.1.symm,z.2.symm⟩,fun z=>⟨z.1.symm,z.2.symm⟩⟩
section
variable {js:List J} {rows:List (Int×Int)} {rest base:Int}
def Hn (n:Nat):yP js rows rest base (n+1)=Sc.stp (zS js) (mN rows rest) (max 0 (base-5)+n) (yP js rows rest base n):=by
 unfold yP;rw[Sc.scan_add];rfl
def Uq (n:Nat):(yP js rows rest base (n+1)).2=some (zS js (max 0 (base-5)+n),mN rows rest (max 0 (base-5)+n)):=by rw[Hn];rfl
def MU (n:Nat) (h:zS js (max 0 (base-5)+n)≠[]):(yP js rows rest base (n+1)).1≠[]:=by
 rw[Hn];unfold Sc.stp Sc.ext;simp only[h,Bx]
 split<;>simp
def MV {n:Nat} {a:List (List Nat)} {m:Int} (h:(yP js rows rest base n).2=some (a,m)) (ha:a≠[]):(yP js rows rest base n).1≠[]:=by
 cases n with
 |zero=>cases h
 |succ n=>
  rw[Uq]at h;injection h with h
  injection h with h1 h2
  exact MU n (by rw[h1];exact ha)
def Ur (n:Nat):(yP js rows rest base n).1.length<=n:=by
 induction n with
 |zero=>exact Ag _
 |succ n ih=>
  rw[Hn];unfold Sc.stp Sc.ext;simp only
  split
  .lia
  .split
   .rename_i h1 h2
    have:=MV h2 h1;have:0<(yP js rows rest base n).1.length:=List.length_pos_iff.mpr this;rw[Av,List.length_dropLast,Dv];lia
   .rw[Av,Dv];lia
end
def MW {n:Nat}:yA (n+1) (-1)=some n:=by
 unfold yA;rw[Ac (by decide),Aa (by lia)]
 congr 1
 lia
def Us {js:List J} (hj:LoadOk js) {rows:List (Int×Int)} {rest base:Int} (hb:0<=base/\base<=900009) (sh:Shape base js) (h:H3):CT [.lst (js.map J.enc),.lst (rows.map zf),.int rest,.int base] h=.ok (.m (.lst ((zW js base (yP js rows rest base (base+200-max 0 (base-5)).toNat).1).map Cl.enc))) h:=by
 show Is h _ _;unfold CT IL IK
 refine y9 rfl ?_
 refine zG (by (simp![])<;>rfl) ?_
 refine zG (by (simp![])<;>rfl) ?_
 obtain⟨lo,hlo⟩:∃lo:Int,max 0 (base-5)=lo:=⟨_,rfl⟩;have q: -(2 ^ 62)<=lo/\lo<2 ^ 62/\ -(2 ^ 62)<=base+200/\base+200<2 ^ 62:=by lia
 refine it_R (l:=List.range (base+200-lo).toNat) (enc:=fun j:Nat=>V3.int (lo+(j:Nat))) (its:=[]) (ok:=fun _=>True) (by (simp![iR2,hlo,Aa q])<;>rfl) trivial (fun i s=> ∃(x6 x7:Option Vl),s=[some (.v (.lst (js.map J.enc))),some (.v (.lst (rows.map zf))),some (.v (.int rest)),some (.v (.int base)),some (.m (.lst ((yP js rows rest base i).1.map Cl.enc))),some (kn (yP js rows rest base i).2),x6,x7]) ⟨none,none,rfl⟩ ?_ ?_
 .rintro i j s hj' ⟨x6,x7,rfl⟩
  have hi:i<(base+200-lo).toNat:=by have:=(An.mp hj').1;simpa using this
  have ej:j=i:=by rw[List.getElem?_range hi]at hj';cases hj';rfl
  subst ej;have hln:=Ur (js:=js) (rows:=rows) (rest:=rest) (base:=base) j;have hk:=fun {a m}=>MV (js:=js) (rows:=rows) (rest:=rest) (base:=base) (n:=j) (a:=a) (m:=m)
  rw[Hn,hlo];generalize yP js rows rest base j=st at*;obtain⟨F,k⟩:=st;generalize lo+(j:Int)=t at*;have eh:=Uk hj t h;have ea:=Ul rows rest t h;generalize hH:zS js t=H at eh;generalize hM:mN rows rest t=M at ea;have c3:F.length<sizeLine:=by have:=yb;have:=hln;simp only at this;lia
  have he:∀s:S3,yh s h (.x (.lst (nmV H))) (.x (.lst []))=some (.v (.bl !H.isEmpty)):=fun s=>by rw[BW (xs:=nmV H) rfl,GZ]
  have i0:∀x0 x1 x2 x3 x4 x5 x6,zk [x0,x1,x2,x3,x4,x5,x6,some (.m (.lst (heV H M)))] h (.s 7) (.x (.int 0))=some (.v (.lst (nmV H))):=fun _ _ _ _ _ _ _=>by rw[DC];rfl
  have i1:∀x0 x1 x2 x3 x4 x5 x6,zk [x0,x1,x2,x3,x4,x5,x6,some (.m (.lst (heV H M)))] h (.s 7) (.x (.int 1))=some (.v (.int M)):=fun _ _ _ _ _ _ _=>by rw[DC];rfl
  by_cases hn:H=[]
  .have es:Sc.stp (zS js) (mN rows rest) t (F,k)=(F,some (H,M)):=by unfold Sc.stp;rw[hH,hM,Aa hn]
   rw[es];have he':H.isEmpty=true:=by rw[hn];rfl
   refine⟨_,by (simp![eh,ea,i0,he,he'])<;>rfl,_,_,rfl⟩
  .have he':H.isEmpty=false:=by cases H<;>first|rfl|exact absurd rfl hn
   have kq:∀(x0 x1 x2 x3 x4 x6:Option Vl),yM [x0,x1,x2,x3,x4,some (kn k),x6,some (.m (.lst (heV H M)))] h (.s 7) (match k with|none=>.s 5|some (a,m)=>.x (.lst (heV a m)))=some (.v (.bl (decide (k=some (H,M))))):=fun x0 x1 x2 x3 x4 x6=>by
    refine Uo rfl ?_
    cases k with
    |none=>rfl
    |some q=>rfl
   by_cases hq:k=some (H,M)
   .have es:Sc.stp (zS js) (mN rows rest) t (F,k)=(Sc.ext F t M,some (H,M)):=by unfold Sc.stp;rw[hH,hM,Ac hn,Aa hq]
    rw[es];have hne:=hk hq hn;simp only at hne;subst hq
    rcases Em F with rfl|⟨ini,c,rfl⟩
    .exact absurd rfl hne
    .rw[D6,Sc.ext_snoc,Ax,Ax,Al,A4,Al,A4]
     have e1:∀x0 x1 x2 x3 x5 x6 x7,zk [x0,x1,x2,x3,some (.m (.lst (ini.map Cl.enc++[Cl.enc c]))),x5,x6,x7] h (.s 4) (.x (.int (-1)))=some (.v (Cl.enc c)):=fun _ _ _ _ _ _ _=>GY rfl
     have kq:=fun x0 x1 x2 x3 x4 x6=>kq x0 x1 x2 x3 x4 x6
     simp only[kn,decide_true]at kq
     refine⟨_,by (simp![eh,ea,i0,i1,he,he',kn,kq,e1,qj,Av,Ah,MW])<;>rfl,some (.v (.int t)),some (.v (.lst (heV H M))),?_⟩
     rw[Ha (by rw[Ah])]
     rfl
   .have es:Sc.stp (zS js) (mN rows rest) t (F,k)=(F++[⟨t,t,M⟩],some (H,M)):=by unfold Sc.stp;rw[hH,hM,Ac hn,Ac hq]
    rw[es,Ax,Al,A4];have kf:decide (k=some (H,M))=false:=Be hq;rw[kf]at kq;cases k with
    |none=>
     simp only[kn]at kq ⊢
     refine⟨_,by (simp![eh,ea,i0,i1,he,he',kq,mAppend_ok,Ah,c3])<;>rfl,_,_,rfl⟩
    |some q=>
     obtain⟨a,m⟩:=q;simp only[kn]at kq ⊢
     refine⟨_,by (simp![eh,ea,i0,i1,he,he',kq,mAppend_ok,Ah,c3])<;>rfl,_,_,rfl⟩
 .rintro s ⟨x6,x7,rfl⟩
  rw[B9];unfold Is;have hlast:∀j r,js=j::r->base+200<=j.l->(yP js rows rest base (base+200-lo).toNat).1≠[]:=fun j r e hl=>by
   have hf:=sh.f j (by rw[e];exact Aj)
   have:(base+200-lo).toNat=(base+199-lo).toNat+1:=by lia
   rw[this]
   refine MU _ fun z=>?_
   have:j.nm∈zS js (max 0 (base-5)+((base+199-lo).toNat:Int)):=hd_mem.mpr ⟨j,by rw[e];exact Aj,⟨by lia,by lia⟩,rfl⟩
   rw[z]at this;cases this
  rw[hlo];generalize yP js rows rest base (base+200-lo).toNat=st at*;obtain⟨F,k⟩:=st;generalize kn (F,k).2=K;unfold zW;cases js with
  |nil=>
   have on:=fun (a b c d e f g:Option Vl)=>BW (s:=[some (.v (.lst [])),a,b,c,d,e,f,g]) (h:=h) (f:= .x (.lst [])) (xs:=[]) rfl
   have e1:([]:List V3).isEmpty=true:=rfl
   (simp![on,e1])<;>rfl
  |cons j r=>
   have on:=fun (a b c d e f g:Option Vl)=>BW (s:=[some (.v (.lst (j.enc::r.map J.enc))),a,b,c,d,e,f,g]) (h:=h) (f:= .x (.lst (j.enc::r.map J.enc))) (xs:=j.enc::r.map J.enc) rfl
   have e1:(j.enc::r.map J.enc).isEmpty=false:=rfl
   by_cases hl:base+200<=j.l
   .have hne:=hlast j r rfl hl
    simp only at hne
    rcases Em F with rfl|⟨ini,c,rfl⟩
    .exact absurd rfl hne
    .simp only[Aa hl]
     rw[D6,Fz,List.getLast?_concat,Ax,Ax]
     simp only[Option.getD_some,Al,A4];have e2:∀x0 x1 x2 x3 x5 x6 x7,zk [x0,x1,x2,x3,some (.m (.lst (ini.map Cl.enc++[Cl.enc c]))),x5,x6,x7] h (.s 4) (.x (.int (-1)))=some (.v (Cl.enc c)):=fun _ _ _ _ _ _ _=>GY rfl
     have st:∀y,(ini.map Cl.enc++[Cl.enc c]).set ini.length y=ini.map Cl.enc++[y]:=fun y=>Ha (by rw[Ah])
     (simp![on,e1,at0,hl,e2,qj,Av,Ah,MW,st])<;>rfl
   .simp only[Ac hl]
    (simp![on,e1,at0,hl])<;>rfl
def Ut {h:H3} {n:Nat} (c:Cl):zA h (n+1) (Cl.enc c) (Cl.enc c)=some true:=M7 fun x hx=>by
 simp only[Ae,Bg,Bb]at hx
 rcases hx with rfl|rfl|rfl<;>rw[DR,Bk rfl]
def Uu {h:H3} (cs:List Cl):∀x∈cs.map Cl.enc,zA h 8 x x=some true:=fun x hx=>by
 obtain⟨c,_,rfl⟩:=B3.mp hx;exact Ut c
def MX {cs:List Cl} {x:V3} {h:H3} (hx:IsL h x (cs.map Cl.enc)):AH [x,.lst (cs.map Cl.enc)] h=.ok (.v (.bl true)) h:=by
 show Is h _ _;obtain⟨ok,hw⟩:=hx.walk;have e2:=fun s=>Jy (s:=s) (h:=h) (hx.rdm (s:=s)) (Gp (xs:=cs.map Cl.enc)) (Uu cs)
 unfold AH Jf Je Jd
 refine y9 rfl ?_
 have st:∀x2 x3,(sIf (tOr3 (tNot3 (tE (eB bIsT (aCons (pV 0) (aCons (pE (eC (.ty "list"))) aNil))))) (tE (eOp yh (pV 0) (pV 1)))) (sRet (eC (.bl false))) sSkip) [some (.v x),some (.v (.lst (cs.map Cl.enc))),x2,x3] h=.nx [some (.v x),some (.v (.lst (cs.map Cl.enc))),x2,x3] h:=fun x2 x3=>by
  have e2:=e2 [some (.v x),some (.v (.lst (cs.map Cl.enc))),x2,x3]
  rcases hx with rfl|⟨n,rfl,e⟩
  ·(simp![e2])<;>rfl
  ·(simp![e2,e])<;>rfl
 refine zG (st none none) ?_
 refine DT (x:=x) (l:=cs) (enc:=Cl.enc) (by simp![]) hw (fun i s=> ∃x2 x3,s=[some (.v x),some (.v (.lst (cs.map Cl.enc))),x2,x3]) ⟨none,none,rfl⟩ ?_ ?_
 .rintro i c s _ ⟨x2,x3,rfl⟩
  have:=M3 (it:=iLT (pV 2)) (g:=gN 3) (b:=(sIf (tOr3 (tNot3 (tE (eB bIsT (aCons (pV 3) (aCons (pE (eC (.ty "int"))) aNil))))) (tE (eB bIsT (aCons (pV 3) (aCons (pE (eC (.ty "bool"))) aNil))))) (sRet (eC (.bl false))) sSkip)) (s:=[some (.v x),some (.v (.lst (cs.map Cl.enc))),some (.v (Cl.enc c)),x3]) (h:=h) (l:=[c.f,c.l,c.m]) (enc:=V3.int) (its:=[Cl.enc c]) (ok:=fun _=>True) (QX (by simp![])) trivial (fun i s=> ∃x3,s=[some (.v x),some (.v (.lst (cs.map Cl.enc))),some (.v (Cl.enc c)),x3]) ⟨_,rfl⟩ (by
   rintro i a s _ ⟨x3,rfl⟩;exact⟨_,by (simp![])<;>rfl,_,rfl⟩)
  obtain⟨s',e,x3',rfl⟩:=this
  refine⟨_,?_,some (.v (Cl.enc c)),x3',rfl⟩
  rw[<-e];rfl
 .rintro s ⟨x2,x3,rfl⟩
  unfold Is;simp![]
section
variable {js:List J} {R:List (Int×Int)} {rest:Int}
def Uv (hj:LoadOk js) (hl:R.length<=16):(y8 js R rest).length<=1000:=by
 unfold y8;rw[Ah];have h1:=Eo (fun p:Int×Int=>yL js p.1) (Bd.prs (Bd.srt (zQ R js)))
 have h2:(Bd.prs (Bd.srt (zQ R js))).length<=(Bd.srt (zQ R js)).length:=by
  rw[<-Bd.prs_zip,List.length_zip];lia
 have h3:(Bd.srt (zQ R js)).length<64:=by
  have:=J7 hj.len hl;unfold Bd.srt;rw[(CF (zN (zQ R js))).1.length_eq];exact this
 lia
def qG (cs:List Cl):(List.range cs.length).map (yU cs)=cs:=by
 apply List.ext_getElem
 .simp
 .intro i h1 h2
  simp[yU,C6,zH h2]
def Uw (cs:List Cl) (j:J):((yQ cs j).map (clen cs)).sum=((cs.filter fun c=>decide (j.f<=c.f) && decide (c.l<=j.l)).map fun c=>c.l-c.f+1).sum:=by
 conv=>rhs;rw[<-qG cs]
 rw[List.filter_map,Ca];rfl
def Ux {j:J} (hj:j∈js):((yQ (y8 js R rest) j).map (clen (y8 js R rest))).sum=max 0 (j.l-j.f+1):=by
 rw[Uw];unfold y8;rw[List.filter_map,Ca,List.filter_filter]
 by_cases h:j.f<=j.l
 .obtain⟨b1,b2,_⟩:=Hl (R:=R) hj h
  have k:=Bd.prs_sum (Bd.srt_up (zQ R js)) b1 b2 (by lia)
  rw[show max 0 (j.l-j.f+1)=j.l+1-j.f by lia,<-k]
  have e:(Bd.prs (Bd.srt (zQ R js))).filter (fun p=>((fun c:Cl=>decide (j.f<=c.f) && decide (c.l<=j.l))∘fun p:Int×Int=>(⟨p.1,p.2-1,Cal.at_ R rest p.1⟩:Cl)) p && yL js p.1)=(Bd.prs (Bd.srt (zQ R js))).filter fun p=>decide (j.f<=p.1) && decide (p.2<=j.l+1):=by
   refine List.filter_congr fun p hp=>?_
   have a:=Bd.prs_up (Bd.srt_up _) p hp;rw[Co];simp only[Function.comp,Ar,Bq]
   constructor
   .rintro⟨⟨z1,z2⟩,_⟩
    exact⟨z1,by lia⟩
   .rintro⟨z1,z2⟩
    refine⟨⟨z1,by lia⟩,?_⟩
    unfold yL;exact C2.mpr ⟨j,hj,by simp only[Ar,Bq];lia⟩
  rw[e]
  congr 1
  refine List.map_congr_left fun p _=>?_
  show p.2-1-p.1+1=p.2-p.1;lia
 .rw[Ga.mpr fun p hp=>?_]
  .show (0:Int)=_;lia
  .have a:=Bd.prs_up (Bd.srt_up _) p hp
   simp only[Function.comp,Ar,Bq];lia
def Uy (cs:List Cl) (hc:∀c∈cs,c.f<=c.l) (j:J):∀x∈(yQ cs j).map (clen cs),0<=x:=fun x hx=>by
 obtain⟨k,hk,rfl⟩:=B3.mp hx;have hk:=Bv.mp (C7.mp hk).1;have:=hc (yU cs k) (by unfold yU;rw[C6,zH hk];exact Df hk)
 unfold clen;lia
def Uz:∀c∈y8 js R rest,c.f<=c.l:=fun c hc=>by
 obtain⟨p,hp,rfl⟩:=B3.mp hc;have a:=Bd.prs_up (Bd.srt_up _) p (C7.mp hp).1;show p.1<=p.2-1;lia
end
def U0 (cs:List Cl) (hc:cs.length<=1000) (j:J) (x0 x3 x4 x5:Option Vl) (h:H3):DY [x0,some (.v (.lst (cs.map Cl.enc))),some (.v j.enc),x3,x4,x5] h=.ok (.m (.lst ((yQ cs j).map fun k:Nat=>.int (k:Int)))) h:=by
 unfold DY yQ
 refine MB (l:=List.range cs.length) (enc:=fun k:Nat=>V3.int (k:Int)) (its:=[]) (ok:=fun _=>True) (fun s=> ∃a,s=[a,some (.v j.enc),some (.v (.lst (cs.map Cl.enc)))]) (wn cs j) (fun k:Nat=>.int (k:Int)) (Tg (j:=(cs.length:Int)) (by (simp![Ah])<;>rfl) (by lia)) trivial (by rw[B9];lia) ⟨none,rfl⟩ ?_
 rintro k s hk ⟨a,rfl⟩;have ha:=MR (Bv.mp hk)
 refine⟨_,by (simp![])<;>rfl,⟨_,rfl⟩,?_,fun _=>⟨_,by (simp![])<;>rfl,rfl⟩⟩
 unfold wn;generalize ((k:Nat):Int)=K at*
 by_cases h1:j.f<=(yU cs k).f
 ·(simp![ha,h1,Bk h1,Dk])<;>rfl
 ·(simp![ha,h1,Be h1,Cv])<;>rfl
def U1 (cs:List Cl) (hc:cs.length<=1000) (j:J) (x0 x2 x4 x5:Option Vl) (h:H3):DZ [x0,some (.v (.lst (cs.map Cl.enc))),x2,some (.v (.lst ((yQ cs j).map fun k:Nat=>.int (k:Int)))),x4,x5] h=.ok (.m (.lst (((yQ cs j).map (clen cs)).map .int))) h:=by
 unfold DZ;rw[Ca]
 refine Jv (x:= .lst ((yQ cs j).map fun k:Nat=>.int (k:Int))) (enc:=fun k:Nat=>.int (k:Int)) (fun s=> ∃a,s=[a,some (.v (.lst (cs.map Cl.enc)))]) (V3.int∘clen cs) (by simp![]) rfl (by have:=Eo (wn cs j) (List.range cs.length);rw[B9]at this;unfold yQ;lia) ⟨none,rfl⟩ ?_
 rintro k s hk ⟨a,rfl⟩;have ha:=MR (Bv.mp (C7.mp hk).1)
 refine⟨_,.v (.int (clen cs k)),by (simp![])<;>rfl,⟨_,rfl⟩,?_,rfl⟩
 unfold clen;generalize ((k:Nat):Int)=K at*
 (simp![ha])<;>rfl
def so_b {x f l:Int} (sm:x=max 0 (l-f+1)) (h1:0<=f/\f<=1000000000) (h2: -1<=l/\l<=10000000000):0+x<2 ^ 63:=by lia
def gb_n {i:Nat} {b:D3} {v:V3} {s:S3} {h:H3} (hi:i<s.length):gb (gN i) b v s h=b (s.set i (some (.v v))) h:=by
 unfold gb gN;rw[Aa hi]
def p1 {P:List V3} {x0 x1 x2 x3 x4 x5:Option Vl} {h:H3} (e1:DY [x0,x1,x2,x3,x4,x5] h=.ok (.m (.lst P)) h):sSet 3 DY [x0,x1,x2,x3,x4,x5] h=.nx [x0,x1,x2,some (.m (.lst P)),x4,x5] h:=by
 (simp![e1])<;>rfl
def p2 {P D:List V3} {j:J} {x0 x3 x4 x5:Option Vl} {h:H3} (e2:CU [j.enc,.lst D] h=.ok (.m (.lst P)) h):(sSet 4 (eCall CU (aCons (pV 2) (aCons (pE (eB bList (aCons (pV 1) aNil))) aNil)))) [x0,some (.v (.lst D)),some (.v j.enc),x3,x4,x5] h=.nx [x0,some (.v (.lst D)),some (.v j.enc),x3,some (.m (.lst P)),x5] h:=by
 (simp![e2])<;>rfl
def p3 {P:List V3} {x0 x1 x2 x5:Option Vl} {h:H3} (hP:∀x∈P,zA h 8 x x=some true):(sIf (tOr3 (tNot3 (tE (eB bIsT (aCons (pV 4) (aCons (pE (eC (.ty "list"))) aNil))))) (tE (eOp yh (pV 4) (pV 3)))) (sRet (eC (.bl false))) sSkip) [x0,x1,x2,some (.m (.lst P)),some (.m (.lst P)),x5] h=.nx [x0,x1,x2,some (.m (.lst P)),some (.m (.lst P)),x5] h:=by
 have e5:yh [x0,x1,x2,some (.m (.lst P)),some (.m (.lst P)),x5] h (.s 4) (.s 3)=some (.v (.bl false)):=Jy (xs:=P) (Jz rfl) (Jz rfl) hP
 (simp![e5])<;>rfl
def p4 {P:List V3} {x0 x1 x2 x4 x5:Option Vl} {h:H3}:sFz 3 [x0,x1,x2,some (.m (.lst P)),x4,x5] h=.nx [x0,x1,x2,some (.v (.lst P)),x4,x5] h:=by
 (simp![])<;>rfl
def p5 {N:List Int} {x0 x1 x2 x3 x4 x5:Option Vl} {h:H3} (e3:DZ [x0,x1,x2,x3,x4,x5] h=.ok (.m (.lst (N.map .int))) h) (so:AX 0 N=true):(sSet 5 (eB bSum (aCons (pE DZ) aNil))) [x0,x1,x2,x3,x4,x5] h=.nx [x0,x1,x2,x3,x4,some (.v (.int N.sum))] h:=by
 have e4:=Tf (s:=[x0,x1,x2,x3,x4,x5]) (h:=h) so
 (simp![e3,e4])<;>rfl
def p6 {T:Int} {j:J} (hT:T=max 0 (j.l-j.f+1)) {x0 x1 x3 x4:Option Vl} {h:H3}:(sIf (tE (eOp yh (pV 5) (pE (eB bMax (aCons (kJ 0) (aCons (pE (eOp zl (pE (eOp ya (pE (eOp zk (pV 2) (kJ 2))) (pE (eOp zk (pV 2) (kJ 1))))) (kJ 1))) aNil)))))) (sRet (eC (.bl false))) sSkip) [x0,x1,some (.v j.enc),x3,x4,some (.v (.int T))] h=.nx [x0,x1,some (.v j.enc),x3,x4,some (.v (.int T))] h:=by
 have hd:decide (T=max 0 (j.l-j.f+1))=true:=Bk hT
 (simp![hd])<;>rfl
def U2 {js:List J} (hj:LoadOk js) {R:List (Int×Int)} {rest:Int} (hl:R.length<=16) (h:H3):CV [.lst (js.map J.enc),.lst ((y8 js R rest).map Cl.enc)] h=.ok (.v (.bl true)) h:=by
 show Is h _ _;have hc:=Uv (rest:=rest) hj hl;have hs:=fun {j}=>Ux (js:=js) (R:=R) (rest:=rest) (j:=j)
 have hp:=Uy (y8 js R rest) Uz;generalize y8 js R rest=cs at*;unfold CV Ji Jh
 refine y9 rfl ?_
 refine DT (x:= .lst (js.map J.enc)) (l:=js) (enc:=J.enc) (by simp![]) rfl (fun i s=> ∃x2 x3 x4 x5,s=[some (.v (.lst (js.map J.enc))),some (.v (.lst (cs.map Cl.enc))),x2,x3,x4,x5]) ⟨none,none,none,none,rfl⟩ ?_ ?_
 .rintro i j s hi ⟨x2,x3,x4,x5,rfl⟩
  have hjm:=Ap hi;have ho:=hj.one j hjm;have e1:=fun x0 x3 x4 x5=>U0 cs hc j x0 x3 x4 x5 h
  have e2:=Ua cs hc j h;have e3:=fun x0 x2 x4 x5=>U1 cs hc j x0 x2 x4 x5 h
  have sm:=hs hjm;have so:AX 0 ((yQ cs j).map (clen cs))=true:=L7 (Cq _) (hp j) (so_b sm ho.f ho.l);have hP:∀x∈(yQ cs j).map (fun k:Nat=>V3.int (k:Int)),zA h 8 x x=some true:=fun x hx=>by
   obtain⟨k,_,rfl⟩:=B3.mp hx;rw[DR,Bk rfl]
  refine⟨[some (.v (.lst (js.map J.enc))),some (.v (.lst (cs.map Cl.enc))),some (.v j.enc),some (.v (.lst ((yQ cs j).map fun k:Nat=>.int (k:Int)))),some (.m (.lst ((yQ cs j).map fun k:Nat=>.int (k:Int)))),some (.v (.int ((yQ cs j).map (clen cs)).sum))],?_,_,_,_,_,rfl⟩
  rw[gb_n (by show 2<6;decide)]
  exact (BE (p1 (e1 _ _ _ _))).trans ((BE (p2 e2)).trans ((BE (p3 hP)).trans ((BE p4).trans ((BE (p5 (e3 _ _ _ _) so)).trans (p6 sm)))))
 .rintro s ⟨x2,x3,x4,x5,rfl⟩
  unfold Is;simp![]
def U3 {ok:H3->Prop} {g:G3} {b:D3} {α:Type} {enc:α->V3} {l:List α} {v:V3} {post:List V3} {x:X3} {h:H3} (hok:ok h) (I:Nat->S3->Prop)
  (step:∀(i:Nat) a s,l[i]? =some a->I i s->∃s2,gb g b (enc a) s h=.nx s2 h/\I (i+1) s2) (bad:∀s,I l.length s->gb g b v s h=.ex x h):∀(n i:Nat) (s:S3),l.length-i=n->i<=l.length->I i s->zJ ok g b ((l.drop i).map enc++v::post) s h=.ex x h:=by
 intro n
 induction n with
 |zero=>
  intro i s hn hi hI;have e:i=l.length:=by lia
  subst e;rw[Cf,A4,Cn];have st:=bad s hI;unfold gb at st;unfold zJ;rw[Aa hok];cases q:g v s with
  |none=>simp only[q]at st;cases st
  |some s1=>simp only[q]at st ⊢;rw[st]
 |succ n ih=>
  intro i s hn hi hI;have hil:i<l.length:=by lia
  rw[BI (zH hil),Al,Fg];obtain⟨s2,st,hI2⟩:=step i l[i] s (zH hil) hI;unfold gb at st;unfold zJ;rw[Aa hok];cases q:g (enc l[i]) s with
  |none=>simp only[q]at st;cases st
  |some s1=>simp only[q]at st ⊢;rw[st];exact ih (i+1) s2 (by lia) hil hI2
def U4 {α:Type} {it:I3} {g:G3} {b r:D3} {s:S3} {h:H3} {its:List V3} {ok:H3->Prop} {enc:α->V3} {l:List α} {v:V3} {post:List V3} {x:X3} (ei:it s h=.ok ⟨its,l.map enc++v::post,ok⟩ h) (hok:ok h) (I:Nat->S3->Prop) (h0:I 0 s)
  (step:∀(i:Nat) a s,l[i]? =some a->I i s->∃s2,gb g b (enc a) s h=.nx s2 h/\I (i+1) s2) (bad:∀s,I l.length s->gb g b v s h=.ex x h):(sSeq (zt it g b) r s h).res=.ex x h:=by
 have:=U3 (ok:=ok) (post:=post) hok I step bad _ 0 s rfl (Bw _) h0;rw[El]at this;unfold sSeq zt;simp only[ei,Res.bindS,this];rfl
abbrev xT:X3:=⟨"TooMany",none⟩
abbrev xN:X3:=⟨"NoName",none⟩
abbrev xU:X3:=⟨"NoNumber",none⟩
abbrev xW (l:List Nat):X3:=⟨"Twice",some (.str (tx l))⟩
def ckG:G3:=(gT (gsCons (gN 2) (gsCons (gN 3) (gsCons (gN 4) (gsCons (gN 5) (gsCons (gN 6) gsNil))))))
def ckB:D3:=(sSeq (sIf (tNot3 (tE (eCall BU (aCons (pV 2) aNil)))) (BF ("NoName" :Str) (aCons (pE (eC (.str ("the name of a job is no name" :Str)))) aNil)) sSkip) (sSeq (sIf (tE (eOp (qx false) (pV 2) (pV 1))) (GA ("Twice" :Str) (aCons (pV 2) aNil)) sSkip) (sSeq (sIf (tNot3 (tE (eCall BV (aCons (pV 3) (aCons (pV 4) (aCons (pV 5) (aCons (pV 6) aNil))))))) (BF ("NoNumber" :Str) (aCons (pE (eF3 (pE (eC (.str ("the numbers of the job " :Str)))) (pE (eFmt (pV 2))) (pE (eC (.str (" are out of bounds" :Str)))))) aNil)) sSkip) (yW yZ (pV 1) (aCons (pV 2) aNil)))))
abbrev qv (x:V3) (ls:List (List Nat)) (x2 x3 x4 x5 x6:Option Vl):S3:=[some (.v x),some (.m (.lst (ls.map fun l=>.str (tx l)))),x2,x3,x4,x5,x6]
def U5 {j:J} (ho:j.Ok) {ls:List (List Nat)} (hn:j.nm∉ls) (hl:ls.length<=1000) {x:V3} {x2 x3 x4 x5 x6:Option Vl} (h:H3):gb ckG ckB j.enc (qv x ls x2 x3 x4 x5 x6) h=.nx (qv x (ls++[j.nm]) (some (.v (.str (tx j.nm)))) (some (.v (.int j.f))) (some (.v (.int j.l))) (some (.v (.int j.w))) (some (.v (.int j.b)))) h:=by
 have hin:∀x2 x3 x4 x5 x6,qx false (qv x ls x2 x3 x4 x5 x6) h (.x (.str (tx j.nm))) (.s 1)=some (.v (.bl false)):=fun x2 x3 x4 x5 x6=>J5 rfl hn
 have hap:∀y,yZ (ls.map fun l=>V3.str (tx l)) [y]=some ((ls.map fun l=>V3.str (tx l))++[y],.non):=fun y=>mAppend_ok (by rw[Ah];have:=yb;lia)
 unfold ckG ckB qv;rw[Ax,Al,A4]
 (simp![Hh ho.nm,hin,ML ho,hap])<;>rfl
def U6 (h:H3):BU [.str ("" :Str)] h=.ok (.v (.bl false)) h:=by
 have e:("" :Str).length=0:=rfl
 (simp![BU,GJ,e])<;>rfl
def U7 {f l w b:Int} {ls:List (List Nat)} {x:V3} {x2 x3 x4 x5 x6:Option Vl} (h:H3):gb ckG ckB (.tup [.str ("" :Str),.int f,.int l,.int w,.int b]) (qv x ls x2 x3 x4 x5 x6) h=.ex xN h:=by
 unfold ckG ckB qv
 (simp![U6,BF])<;>rfl
def U8 {s:S3} {h:H3} {i:Nat} {ls:List (List Nat)} {l:List Nat} (e:s[i]? =some (some (.m (.lst (ls.map fun l=>.str (tx l)))))) (hl:l∈ls):qx false s h (.x (.str (tx l))) (.s i)=some (.v (.bl true)):=by
 have e2:zF (fun b=>zA h 8 b (.str (tx l))) (ls.map fun l=>V3.str (tx l))=some (ls.map fun m=>decide (tx m=tx l)):=EZ (f:=fun b=>zA h 8 b (.str (tx l))) (g:=fun l=>V3.str (tx l)) (k:=fun m=>decide (tx m=tx l)) (fun m=>DS) ls
 have e3:(ls.map fun m=>decide (tx m=tx l)).any id=true:=by
  rw[List.any_map,C2];exact⟨l,hl,by simp⟩
 unfold qx inO;simp only[rdl,e,e2,Bh,e3]
 first|rfl|simp
def U9 {n:List Nat} (hN:isN n=true) {f l w b:Int} {ls:List (List Nat)} (hn:n∈ls) {x:V3} {x2 x3 x4 x5 x6:Option Vl} (h:H3):gb ckG ckB (.tup [.str (tx n),.int f,.int l,.int w,.int b]) (qv x ls x2 x3 x4 x5 x6) h=.ex (xW n) h:=by
 have hin:∀x2 x3 x4 x5 x6,qx false (qv x ls x2 x3 x4 x5 x6) h (.x (.str (tx n))) (.s 1)=some (.v (.bl true)):=fun x2 x3 x4 x5 x6=>U8 rfl hn
 have hl:(tx n).length<=10000:=by rw[DB];obtain⟨a,r,rfl,h2,_⟩:=Hg hN;lia
 unfold ckG ckB
 (simp![Hh hN,hin,GA,hl])<;>rfl
def UA {f l b:Int} (hf:0<=f/\f<=1000000000) (hl: -1<=l/\l<=10000000000) (h:H3):BV [.int f,.int l,.int 61,.int b] h=.ok (.v (.bl false)) h:=by
 have e:qq [.int 61,.int 1,.int 60] h=.ok (.v (.bl false)) h:=by
  (simp![qq,GB,ME])<;>rfl
 (simp![BV,GK,BK hf.1 hf.2,BK hl.1 hl.2,e])<;>rfl
def UB {n:List Nat} (hN:isN n=true) {f l b:Int} (hf:0<=f/\f<=1000000000) (hl: -1<=l/\l<=10000000000) {ls:List (List Nat)} (hn:n∉ls) {x:V3} {x2 x3 x4 x5 x6:Option Vl} (h:H3):gb ckG ckB (.tup [.str (tx n),.int f,.int l,.int 61,.int b]) (qv x ls x2 x3 x4 x5 x6) h=.ex xU h:=by
 have hin:∀x2 x3 x4 x5 x6,qx false (qv x ls x2 x3 x4 x5 x6) h (.x (.str (tx n))) (.s 1)=some (.v (.bl false)):=fun x2 x3 x4 x5 x6=>J5 rfl hn
 have hl8:n.length<=8:=by obtain⟨a,r,rfl,h2,_⟩:=Hg hN;lia
 have q1:(tx n).length<=100000:=by rw[DB];lia
 have q2:(tx n).length<=10000:=by rw[DB];lia
 have q3:("the numbers of the job " :Str).length<=10000:=by decide+kernel
 have q4:(" are out of bounds" :Str).length<=10000:=by decide+kernel
 unfold ckG ckB
 (simp![Hh hN,hin,UA hf hl,BF,eF3,eFmt,Aa q1,Aa q2,Aa q3,Aa q4])<;>rfl
def J8 {js:List J} (hj:LoadOk js) {v:V3} {post:List V3} (hl:js.length+1+post.length<=12) {x:X3} {h:H3} (bad:∀x0 x2 x3 x4 x5 x6,gb ckG ckB v (qv x0 (js.map J.nm) x2 x3 x4 x5 x6) h=.ex x h):BH [.lst (js.map J.enc++v::post)] h=.ex x h:=by
 refine y9 (Q:=fun R=>R=.ex x h) rfl ?_
 unfold FZ GL;have hl': ¬((12:Int)<((js.map J.enc++v::post).length:Int)):=by rw[Av,Ah,Az];lia
 refine zG (Q:=fun R=>R=.ex x h) (s1:=[some (.v (.lst (js.map J.enc++v::post))),none,none,none,none,none,none]) (h1:=h) (by (simp![hl'])<;>rfl) ?_
 refine zG (Q:=fun R=>R=.ex x h) (s1:=qv (.lst (js.map J.enc++v::post)) [] none none none none none) (h1:=h) (by (simp![])<;>rfl) ?_
 refine U4 (its:=[.lst (js.map J.enc++v::post)]) (l:=js) (enc:=J.enc) (ok:=fun _=>True) (Tq (by (simp![])<;>rfl) rfl) trivial (fun i s=> ∃x2 x3 x4 x5 x6,s=qv (.lst (js.map J.enc++v::post)) ((js.take i).map J.nm) x2 x3 x4 x5 x6) ⟨_,_,_,_,_,rfl⟩ ?_ ?_
 .rintro i j s hi ⟨x2,x3,x4,x5,x6,rfl⟩
  have ho:=hj.one j (Ap hi);have hnot:j.nm∉(js.take i).map J.nm:=by
   have h0:js.map J.nm=(js.take i).map J.nm++j.nm::(js.drop (i+1)).map J.nm:=by
    rw[<-Al,<-Ax,<-BI hi,Gb]
   have h1:=hj.nd;rw[h0,D0]at h1;intro z;exact h1.2.2 _ z _ Aj rfl
  refine⟨_,U5 ho hnot (by rw[Ah,Bc];have:=hj.len;lia) h,some (.v (.str (tx j.nm))),some (.v (.int j.f)),some (.v (.int j.l)),some (.v (.int j.w)),some (.v (.int j.b)),?_⟩
  rw[Ez,hi,Option.toList,Ax,Al,A4]
 .rintro s ⟨x2,x3,x4,x5,x6,rfl⟩
  rw[E5];exact bad _ _ _ _ _ _
def UC {xs:List V3} (hl:12<xs.length) (h:H3):BH [.lst xs] h=.ex xT h:=by
 have hl':(12:Int)<(xs.length:Int):=by lia
 (simp![BH,FZ,hl',BF])<;>rfl
def UD:qc qD ("TooMany" :Str) ("TooMany" :Str)=some true:=by decide+kernel
def UE:qc qD ("Twice" :Str) ("TooMany" :Str)=some false:=by decide+kernel
def UF:qc qD ("Twice" :Str) ("Twice" :Str)=some true:=by decide+kernel
def UG:qc qD ("NoName" :Str) ("TooMany" :Str)=some false:=by decide+kernel
def UH:qc qD ("NoName" :Str) ("Twice" :Str)=some false:=by decide+kernel
def UI:qc qD ("NoName" :Str) ("NoName" :Str)=some true:=by decide+kernel
def UJ:qc qD ("NoNumber" :Str) ("TooMany" :Str)=some false:=by decide+kernel
def UK:qc qD ("NoNumber" :Str) ("Twice" :Str)=some false:=by decide+kernel
def UL:qc qD ("NoNumber" :Str) ("NoName" :Str)=some false:=by decide+kernel
def UM:qc qD ("NoNumber" :Str) ("NoNumber" :Str)=some true:=by decide+kernel
def MY:("twice " :Str)=tx [116,119,105,99,101,32]:=by decide+kernel
abbrev twN (n:List Nat):List Nat:=[116,119,105,99,101,32]++n
section
variable {xs:List V3} {c:V3} {h:H3}
def Ho {x:X3} (e:BH [.lst xs] h=.ex x h):yR [.lst xs,c] h=.ex x h:=by
 (simp![yR,GN,e])<;>rfl
def UN (e:yR [.lst xs,c] h=.ex xT h):yz [.lst xs,c] h=.ok (.v (.str ("many" :Str))) h:=by
 (simp![yz,DW,BS,e,pick,UD,noEx])<;>rfl
def UO (e:yR [.lst xs,c] h=.ex xN h):yz [.lst xs,c] h=.ok (.v (.str ("name" :Str))) h:=by
 (simp![yz,DW,BS,e,pick,UG,UH,UI,noEx])<;>rfl
def UP (e:yR [.lst xs,c] h=.ex xU h):yz [.lst xs,c] h=.ok (.v (.str ("number" :Str))) h:=by
 (simp![yz,DW,BS,e,pick,UJ,UK,UL,UM,noEx])<;>rfl
def UQ {n:List Nat} (hn:n.length<=8) (e:yR [.lst xs,c] h=.ex (xW n) h):yz [.lst xs,c] h=.ok (.v (.str (tx (twN n)))) h:=by
 have oa:=fun s=>GX (s:=s) (h:=h) (a:=[116,119,105,99,101,32]) (b:=n) (by have:=yb;simp;lia)
 (simp![yz,DW,BS,e,pick,UE,UF,asN,eXn,MY,oa,Option.toList])<;>rfl
end
def Gq {s:S3} {h:H3} {xs ys:List V3} (hl:xs.length+ys.length<=sizeLine):zl s h (.x (.lst xs)) (.x (.lst ys))=some (.m (.lst (xs++ys))):=by
 unfold zl qe BQ oI EW oCat;simp only[rdm,rdl,Aa hl]
def tx_k:("k" :Str)=tx [107]:=by decide+kernel
def UR (x0 x1 x2 x3 x4 x5 x6 x7 x8:Option Vl) (h:H3):∃xs:List V3,xs.length=13/\Gi [x0,x1,x2,x3,x4,x5,x6,x7,x8] h=.ok (.m (.lst xs)) h:=by
 refine⟨(List.range (13:Int).toNat).map fun k=>.tup [.str (tx ([107]++dg k)),.int 0,.int 5,.int 1,.int 1],by rw[Ah,B9];rfl,?_⟩
 unfold Gi
 refine Tc (fun s=> ∃a,s=[a]) _ (by (simp![])<;>rfl) (by decide) ⟨none,rfl⟩ ?_
 rintro k s hk ⟨a,rfl⟩;have hk:k<13:=hk;have sn:=strN (k:=k) (by lia)
 have hl:([107]:List Nat).length+(dg k).length<=sizeLine:=by have:=He 1 k (by lia);have:=yb;simp;lia
 have oa:=fun (s:S3)=>GX (s:=s) (h:=h) hl
 refine⟨_,.v (.tup [.str (tx ([107]++dg k)),.int 0,.int 5,.int 1,.int 1]),by (simp![])<;>rfl,⟨_,rfl⟩,?_,rfl⟩
 generalize ((k:Nat):Int)=K at*
 (simp![sn,tx_k,oa])<;>rfl
section
variable {c:V3} {h:H3} {xs A B:List V3} {K:Int} {j:J} {x0 x1 x2 x3 x4 x5 x6 x7 x8:Option Vl}
def a1 (hc:∀xs:List V3,xs.length=13->yz [.lst xs,c] h=.ok (.v (.str ("many" :Str))) h):(sIf (tE (eOp yh (pE (eCall yz (aCons (pE Gi) (aCons (pV 1) aNil)))) (pE (eC (.str ("many" :Str)))))) (sRet (eC (.bl false))) sSkip) [x0,some (.v c),x2,x3,x4,x5,x6,x7,x8] h=.nx [x0,some (.v c),x2,x3,x4,x5,x6,x7,x8] h:=by
 obtain⟨xs,hl,e⟩:=UR x0 (some (.v c)) x2 x3 x4 x5 x6 x7 x8 h;have e2:=hc xs hl;have hd:decide (("many" :Str)=("many" :Str))=true:=Bk rfl
 (simp![e,e2,Tj,hd])<;>rfl
def a2 (hl:(xs.length:Int)<2\/11<(xs.length:Int)):(sIf (tOr3 (tE (eOp oLt (pE (eB bLen (aCons (pV 0) aNil))) (kJ 2))) (tE (eOp oGt (pE (eB bLen (aCons (pV 0) aNil))) (kJ 11)))) (sRet (eC (.bl true))) sSkip) [some (.v (.lst xs)),x1,x2,x3,x4,x5,x6,x7,x8] h=.rt (.v (.bl true)) h:=by
 by_cases h1:(xs.length:Int)<2
 ·(simp![h1])<;>rfl
 .have h2:=hl.resolve_left h1
  (simp![h1,h2])<;>rfl
def a2n (h1: ¬(xs.length:Int)<2) (h2: ¬11<(xs.length:Int)):(sIf (tOr3 (tE (eOp oLt (pE (eB bLen (aCons (pV 0) aNil))) (kJ 2))) (tE (eOp oGt (pE (eB bLen (aCons (pV 0) aNil))) (kJ 11)))) (sRet (eC (.bl true))) sSkip) [some (.v (.lst xs)),x1,x2,x3,x4,x5,x6,x7,x8] h=.nx [some (.v (.lst xs)),x1,x2,x3,x4,x5,x6,x7,x8] h:=by
 (simp![h1,h2])<;>rfl
def a3 {d L:Int} (hL:(xs.length:Int)=L) (hp:0<L-1) (hK:zM d 9%(L-1)=K):(sSet 3 (eOp zK (pE (eCall yI (aCons (pV 2) (aCons (kJ 9) aNil)))) (pE (eOp ya (pE (eB bLen (aCons (pV 0) aNil))) (kJ 1))))) [some (.v (.lst xs)),x1,some (.v (.int d)),x3,x4,x5,x6,x7,x8] h=.nx [some (.v (.lst xs)),x1,some (.v (.int d)),some (.v (.int K)),x4,x5,x6,x7,x8] h:=by
 have hm:=BJ d 9 h;generalize zM d 9=m at*
 (simp![hm,hL,hp,hK])<;>rfl
def a4 (ha:atI xs K=some j.enc):(sSet 4 (eOp zk (pV 0) (pV 3))) [some (.v (.lst xs)),x1,x2,some (.v (.int K)),x4,x5,x6,x7,x8] h=.nx [some (.v (.lst xs)),x1,x2,some (.v (.int K)),some (.v j.enc),x5,x6,x7,x8] h:=by
 (simp![ha])<;>rfl
def a5 (hl:xs.length<=1000):(sSet 5 (eOp zl (pV 0) (pE (eLst (aCons (pE (eTup (aCons (pE (eOp zk (pV 4) (kJ 0))) (aCons (kJ 0) (aCons (kJ 5) (aCons (kJ 1) (aCons (kJ 1) aNil))))))) aNil))))) [some (.v (.lst xs)),x1,x2,x3,some (.v j.enc),x5,x6,x7,x8] h=.nx [some (.v (.lst xs)),x1,x2,x3,some (.v j.enc),some (.m (.lst (xs++[.tup [.str (tx j.nm),.int 0,.int 5,.int 1,.int 1]]))),x6,x7,x8] h:=by
 have oa:=fun s=>Gq (s:=s) (h:=h) (xs:=xs) (ys:=[.tup [.str (tx j.nm),.int 0,.int 5,.int 1,.int 1]]) (by have:=yb;simp;lia)
 (simp![oa])<;>rfl
def a6 (hA:zV xs none (some K)=A) (hB:zV xs (some (K+1)) none=B) (la:A.length<=1000) (lb:B.length<=1000):(sSet 6 (eOp zl (pE (eOp zl (pE (qo (pV 0) qt (qp (pV 3)))) (pE (eLst (aCons (pE (eTup (aCons (pE (eC (.str ("" :Str)))) (aCons (pE (eOp zk (pV 4) (kJ 1))) (aCons (pE (eOp zk (pV 4) (kJ 2))) (aCons (pE (eOp zk (pV 4) (kJ 3))) (aCons (pE (eOp zk (pV 4) (kJ 4))) aNil))))))) aNil))))) (pE (qo (pV 0) (qp (pE (eOp zl (pV 3) (kJ 1)))) qt)))) [some (.v (.lst xs)),x1,x2,some (.v (.int K)),some (.v j.enc),x5,x6,x7,x8] h=.nx [some (.v (.lst xs)),x1,x2,some (.v (.int K)),some (.v j.enc),x5,some (.m (.lst (A++ .tup [.str ("" :Str),.int j.f,.int j.l,.int j.w,.int j.b]::B))),x7,x8] h:=by
 have o1:=fun s=>Gq (s:=s) (h:=h) (xs:=A) (ys:=[.tup [.str ("" :Str),.int j.f,.int j.l,.int j.w,.int j.b]]) (by have:=yb;simp;lia)
 have o2:=fun s=>Gq (s:=s) (h:=h) (xs:=A++[.tup [.str ("" :Str),.int j.f,.int j.l,.int j.w,.int j.b]]) (ys:=B) (by have:=yb;simp;lia)
 rw[show A++V3.tup [.str ("" :Str),.int j.f,.int j.l,.int j.w,.int j.b]::B=(A++[.tup [.str ("" :Str),.int j.f,.int j.l,.int j.w,.int j.b]])++B by simp]
 (simp![qo,qt,qp,oSl,hA,hB,o1,o2])<;>rfl
def a7 (hA:zV xs none (some K)=A) (hB:zV xs (some (K+1)) none=B) (la:A.length<=1000) (lb:B.length<=1000):(sSet 7 (eOp zl (pE (eOp zl (pE (qo (pV 0) qt (qp (pV 3)))) (pE (eLst (aCons (pE (eTup (aCons (pE (eOp zk (pV 4) (kJ 0))) (aCons (pE (eOp zk (pV 4) (kJ 1))) (aCons (pE (eOp zk (pV 4) (kJ 2))) (aCons (kJ 61) (aCons (pE (eOp zk (pV 4) (kJ 4))) aNil))))))) aNil))))) (pE (qo (pV 0) (qp (pE (eOp zl (pV 3) (kJ 1)))) qt)))) [some (.v (.lst xs)),x1,x2,some (.v (.int K)),some (.v j.enc),x5,x6,x7,x8] h=.nx [some (.v (.lst xs)),x1,x2,some (.v (.int K)),some (.v j.enc),x5,x6,some (.m (.lst (A++ .tup [.str (tx j.nm),.int j.f,.int j.l,.int 61,.int j.b]::B))),x8] h:=by
 have o1:=fun s=>Gq (s:=s) (h:=h) (xs:=A) (ys:=[.tup [.str (tx j.nm),.int j.f,.int j.l,.int 61,.int j.b]]) (by have:=yb;simp;lia)
 have o2:=fun s=>Gq (s:=s) (h:=h) (xs:=A++[.tup [.str (tx j.nm),.int j.f,.int j.l,.int 61,.int j.b]]) (ys:=B) (by have:=yb;simp;lia)
 rw[show A++V3.tup [.str (tx j.nm),.int j.f,.int j.l,.int 61,.int j.b]::B=(A++[.tup [.str (tx j.nm),.int j.f,.int j.l,.int 61,.int j.b]])++B by simp]
 (simp![qo,qt,qp,oSl,hA,hB,o1,o2])<;>rfl
def a8 {P Q R:List V3} {n:List Nat} (hj:j.nm=n) (hn:n.length<=8) (e1:yz [.lst P,c] h=.ok (.v (.str (tx (twN n)))) h) (e2:yz [.lst Q,c] h=.ok (.v (.str ("name" :Str))) h) (e3:yz [.lst R,c] h=.ok (.v (.str ("number" :Str))) h):
  ((sSeq (sFz 7) (sSeq (sFz 6) (sSeq (sFz 5) (sSeq (sSet 8 (eLst (aCons (pE (eCall yz (aCons (pV 5) (aCons (pV 1) aNil)))) (aCons (pE (eCall yz (aCons (pV 6) (aCons (pV 1) aNil)))) (aCons (pE (eCall yz (aCons (pV 7) (aCons (pV 1) aNil)))) aNil))))) (sRet (eOp yM (pV 8) (pE (eLst (aCons (pE (eOp zl (pE (eC (.str ("twice " :Str)))) (pE (eOp zk (pV 4) (kJ 0))))) (aCons (pE (eC (.str ("name" :Str)))) (aCons (pE (eC (.str ("number" :Str)))) aNil))))))))))) [x0,some (.v c),x2,x3,some (.v j.enc),some (.m (.lst P)),some (.m (.lst Q)),some (.m (.lst R)),x8] h)=.rt (.v (.bl true)) h:=by
 obtain⟨T,hT⟩:∃T:Str,T=tx (twN n):=⟨_,rfl⟩;rw[<-hT]at e1;have oa:∀s,zl s h (.x (.str (tx [116,119,105,99,101,32]))) (.x (.str (tx n)))=some (.v (.str T)):=fun s=>(GX (s:=s) (h:=h) (a:=[116,119,105,99,101,32]) (b:=n) (by have:=yb;simp;lia)).trans (by rw[hT])
 have oq:∀x0 x1 x2 x3 x4 x5 x6 x7,yM [x0,x1,x2,x3,x4,x5,x6,x7,some (.m (.lst [.str T,.str ("name" :Str),.str ("number" :Str)]))] h (.s 8) (.x (.lst [.str T,.str ("name" :Str),.str ("number" :Str)]))=some (.v (.bl true)):=fun x0 x1 x2 x3 x4 x5 x6 x7=>Ti (Jz rfl) Gp fun x hx=>by
  simp only[Ae,Bg,Bb]at hx
  rcases hx with rfl|rfl|rfl<;>rw[DS,Bk rfl]
 unfold J.enc;rw[hj]
 (simp![e1,e2,e3,MY,oa,oq])<;>rfl
end
def US {js:List J} (hj:LoadOk js) (c:V3) (d:Int) (h:H3):DX [.lst (js.map J.enc),c,.int d] h=.ok (.v (.bl true)) h:=by
 have lm:(js.map J.enc).length=js.length:=Ah _
 refine y9 (Q:=fun R=>R=.ok (.v (.bl true)) h) rfl ?_
 unfold Jc
 refine zG (Q:=fun R=>R=.ok (.v (.bl true)) h) (a1 fun xs hl=>UN (Ho (UC (by lia) h))) ?_
 by_cases hlen:(js.length:Int)<2\/11<(js.length:Int)
 .have:=a2 (xs:=js.map J.enc) (h:=h) (x1:=some (.v c)) (x2:=some (.v (.int d))) (x3:=none) (x4:=none) (x5:=none) (x6:=none) (x7:=none) (x8:=none) (by rw[lm];exact hlen)
  unfold sSeq;rw[this];rfl
 .have hl1:2<=js.length/\js.length<=11:=by lia
  refine zG (Q:=fun R=>R=.ok (.v (.bl true)) h) (a2n (xs:=js.map J.enc) (by rw[lm];lia) (by rw[lm];lia)) ?_
  obtain⟨K,hK⟩:∃K,zM d 9%((js.length:Int)-1)=K:=⟨_,rfl⟩;have hK0:0<=K:=by rw[<-hK];exact Int.emod_nonneg _ (by lia)
  have hK1:K<(js.length:Int)-1:=by rw[<-hK];exact Int.emod_lt_of_pos _ (by lia)
  refine zG (Q:=fun R=>R=.ok (.v (.bl true)) h) (a3 (xs:=js.map J.enc) (L:=(js.length:Int)) (K:=K) (by rw[lm]) (by lia) hK) ?_
  clear hK;obtain⟨k,rfl⟩:∃k:Nat,K=(k:Int):=⟨K.toNat,by lia⟩
  have hk:k<js.length:=by lia
  obtain⟨j,hjk⟩:∃j,js[k]? =some j:=⟨_,zH hk⟩;have hjm:=Ap hjk;have ho:=hj.one j hjm;have hat:atI (js.map J.enc) (k:Int)=some j.enc:=AA (j:=k) (by rw[A9,hjk];rfl)
  refine zG (Q:=fun R=>R=.ok (.v (.bl true)) h) (a4 hat) ?_
  refine zG (Q:=fun R=>R=.ok (.v (.bl true)) h) (a5 (by rw[lm];lia)) ?_
  have cA:zV (js.map J.enc) none (some (k:Int))=(js.take k).map J.enc:=by rw[Th,List.map_take]
  have cB:zV (js.map J.enc) (some ((k:Int)+1)) none=(js.drop (k+1)).map J.enc:=by
   rw[show ((k:Int)+1)=((k+1:Nat):Int) by lia,M5,List.map_drop]
  have lA:((js.take k).map J.enc).length=k:=by rw[Ah,Bc];lia
  have lB:((js.drop (k+1)).map J.enc).length=js.length-(k+1):=by rw[Ah,Et]
  refine zG (Q:=fun R=>R=.ok (.v (.bl true)) h) (a6 cA cB (by lia) (by lia)) ?_
  refine zG (Q:=fun R=>R=.ok (.v (.bl true)) h) (a7 cA cB (by lia) (by lia)) ?_
  have hn8:j.nm.length<=8:=by obtain⟨a,r,e,h2,_⟩:=Hg ho.nm;exact h2
  have h0:js.map J.nm=(js.take k).map J.nm++j.nm::(js.drop (k+1)).map J.nm:=by
   rw[<-Al,<-Ax,<-BI hjk,Gb]
  have hnot:j.nm∉(js.take k).map J.nm:=by
   have h1:=hj.nd;rw[h0,D0]at h1;intro z;exact h1.2.2 _ z _ Aj rfl
  have hT:LoadOk (js.take k):=⟨by rw[Bc];lia,fun i hi=>hj.one i (B8 hi),by
   have h1:=hj.nd;rw[h0,D0]at h1;exact h1.1⟩
  have c1:=J8 hj (v:= .tup [.str (tx j.nm),.int 0,.int 5,.int 1,.int 1]) (post:=[]) (by simp;lia) (x:=xW j.nm) (h:=h) fun x0 x2 x3 x4 x5 x6=>U9 ho.nm (List.mem_map_of_mem hjm) h
  have c2:=J8 hT (v:= .tup [.str ("" :Str),.int j.f,.int j.l,.int j.w,.int j.b]) (post:=(js.drop (k+1)).map J.enc) (by rw[lB,Bc];lia) (x:=xN) (h:=h) fun x0 x2 x3 x4 x5 x6=>U7 h
  have c3:=J8 hT (v:= .tup [.str (tx j.nm),.int j.f,.int j.l,.int 61,.int j.b]) (post:=(js.drop (k+1)).map J.enc) (by rw[lB,Bc];lia) (x:=xU) (h:=h) fun x0 x2 x3 x4 x5 x6=>UB ho.nm ho.f ho.l hnot h
  show O3.res _=_;rw[a8 rfl hn8 (UQ hn8 (Ho c1)) (UO (Ho c2)) (UP (Ho c3))];rfl
theorem MZ {n:Nat}:∀{l:List (Int×Int)},lows n (l.map zf)=true
 | []=>rfl
 |_::_=>by simp only[Al,lows,low,MZ,Bool.and_self]
def UT {h:H3} (js:List J):∀x∈js.map J.enc,zA h 8 x x=some true:=fun x hx=>by
 obtain⟨j,_,rfl⟩:=B3.mp hx
 refine M7 fun y hy=>?_
 simp only[Ae,Bg,Bb]at hy
 rcases hy with rfl|rfl|rfl|rfl|rfl
 .rw[DS,Bk rfl]
 all_goals rw[DR,Bk rfl]
section
variable {x0 x1 x2 x3 x4 x5 x6 x7 x8:Option Vl} {ns:List Int} {rest base:Int} {R L D:List V3} {K:V3} {h h':H3} {fs:List (Str×V3)}
def l10 (e:CT [.lst L,.lst R,.int rest,.int base] h=.ok (.m (.lst D)) h):sSet 7 (eCall CT (aCons (pV 5) (aCons (pV 1) (aCons (pV 2) (aCons (pV 3) aNil))))) [x0,some (.v (.lst R)),some (.v (.int rest)),some (.v (.int base)),x4,some (.v (.lst L)),x6,x7,x8] h=.nx [x0,some (.v (.lst R)),some (.v (.int rest)),some (.v (.int base)),x4,some (.v (.lst L)),x6,some (.m (.lst D)),x8] h:=by
 (simp![e])<;>rfl
def l11 {c:Str}:sFz 4 [x0,x1,x2,x3,some (.m (.ins c fs)),x5,x6,x7,x8] h=.nx [x0,x1,x2,x3,some (.v (.obj c fs)),x5,x6,x7,x8] h:=by
 (simp![])<;>rfl
def l12:sFz 6 [x0,x1,x2,x3,x4,x5,some (.m (.lst L)),x7,x8] h=.nx [x0,x1,x2,x3,x4,x5,some (.v (.lst L)),x7,x8] h:=by
 (simp![])<;>rfl
def l13 (e:yR [.lst L,K] h=.ok (.m (.lst D)) h):sSet 8 (eGl (eCall yR (aCons (pV 6) (aCons (pV 4) aNil)))) [x0,x1,x2,x3,some (.v K),x5,some (.v (.lst L)),x7,x8] h=.nx [x0,x1,x2,x3,some (.v K),x5,some (.v (.lst L)),x7,some (.v (.loc h.length))] (h++[.lst D]):=by
 (simp![e,eGl])<;>rfl
def l14:sFz 5 [x0,x1,x2,x3,x4,some (.v K),x6,x7,x8] h=.nx [x0,x1,x2,x3,x4,some (.v K),x6,x7,x8] h:=by
 (simp![])<;>rfl
def l15:sFz 7 [x0,x1,x2,x3,x4,x5,x6,some (.m (.lst D)),x8] h=.nx [x0,x1,x2,x3,x4,x5,x6,some (.v (.lst D)),x8] h:=by
 (simp![])<;>rfl
def l16 {V:V3} (e1:AH [V,.lst D] h=.ok (.v (.bl true)) h) (e2:CV [.lst L,.lst D] h=.ok (.v (.bl true)) h) (hq:∀x∈L,zA h 8 x x=some true):(sIf (tOr3 (tNot3 (tE (eCall AH (aCons (pV 8) (aCons (pV 7) aNil))))) (tOr3 (tE (eOp yh (pV 6) (pV 5))) (tNot3 (tE (eCall CV (aCons (pV 5) (aCons (pV 7) aNil))))))) (sRet (eC (.bl false))) sSkip) [x0,x1,x2,x3,x4,some (.v (.lst L)),some (.v (.lst L)),some (.v (.lst D)),some (.v V)] h=.nx [x0,x1,x2,x3,x4,some (.v (.lst L)),some (.v (.lst L)),some (.v (.lst D)),some (.v V)] h:=by
 have oq:=fun s=>Jy (s:=s) (h:=h) (Gp (xs:=L)) (Gp (xs:=L)) hq
 (simp![e1,e2,oq])<;>rfl
def l17 {n:Nat} (e:h[n]? =some (.lst D)) (w:h.set n (.lst [])=h'):yW FF (pV 8) aNil [x0,x1,x2,x3,x4,x5,x6,x7,some (.v (.loc n))] h=.nx [x0,x1,x2,x3,x4,x5,x6,x7,some (.v (.loc n))] h':=by
 (simp![e,w,FF])<;>rfl
def l18:sFz 7 [x0,x1,x2,x3,x4,x5,x6,some (.v K),x8] h=.nx [x0,x1,x2,x3,x4,x5,x6,some (.v K),x8] h:=by
 (simp![])<;>rfl
def l19:sFz 4 [x0,x1,x2,x3,some (.v K),x5,x6,x7,x8] h=.nx [x0,x1,x2,x3,some (.v K),x5,x6,x7,x8] h:=by
 (simp![])<;>rfl
def l20:sFz 6 [x0,x1,x2,x3,x4,x5,some (.v K),x7,x8] h=.nx [x0,x1,x2,x3,x4,x5,some (.v K),x7,x8] h:=by
 (simp![])<;>rfl
def l21 (e:yR [.lst L,K] h=.ok (.m (.lst D)) h) (e1:AH [.lst D,.lst D] h=.ok (.v (.bl true)) h):(sIf (tNot3 (tE (eCall AH (aCons (pE (eCall yR (aCons (pV 6) (aCons (pV 4) aNil)))) (aCons (pV 7) aNil))))) (sRet (eC (.bl false))) sSkip) [x0,x1,x2,x3,some (.v K),x5,some (.v (.lst L)),some (.v (.lst D)),x8] h=.nx [x0,x1,x2,x3,some (.v K),x5,some (.v (.lst L)),some (.v (.lst D)),x8] h:=by
 (simp![e,e1])<;>rfl
def l22 {d:Int} (e:yG [.scr ns,.int 2] h=.ok (.v (.int d)) h) (e1:DX [.lst L,K,.int d] h=.ok (.v (.bl true)) h):(sRet (eCall DX (aCons (pV 5) (aCons (pV 4) (aCons (pE (eCall yG (aCons (pV 0) (aCons (kJ 2) aNil)))) aNil))))) [some (.v (.scr ns)),x1,x2,x3,some (.v K),some (.v (.lst L)),x6,x7,x8] h=.rt (.v (.bl true)) h:=by
 (simp![e,e1])<;>rfl
def l1 {c:Int} (e:yG [.scr ns,.int 0] h=.ok (.v (.int c)) h) (e1:CO [.int c] h=.ok (.m (.lst R)) h):sSet 1 (eCall CO (aCons (pE (eCall yG (aCons (pV 0) (aCons (kJ 0) aNil)))) aNil)) [some (.v (.scr ns)),x1,x2,x3,x4,x5,x6,x7,x8] h=.nx [some (.v (.scr ns)),some (.m (.lst R)),x2,x3,x4,x5,x6,x7,x8] h:=by
 (simp![e,e1])<;>rfl
def l2 {c:Int} (e:yG [.scr ns,.int 1] h=.ok (.v (.int c)) h):sSet 2 (eOp zl (kJ 1) (pE (eOp zK (pE (eCall yG (aCons (pV 0) (aCons (kJ 1) aNil)))) (kJ 16)))) [some (.v (.scr ns)),x1,x2,x3,x4,x5,x6,x7,x8] h=.nx [some (.v (.scr ns)),x1,some (.v (.int (1+c%16))),x3,x4,x5,x6,x7,x8] h:=by
 (simp![e])<;>rfl
def l3:sSet 3 (eC (.int 0)) [x0,x1,x2,x3,x4,x5,x6,x7,x8] h=.nx [x0,x1,x2,some (.v (.int 0)),x4,x5,x6,x7,x8] h:=by
 (simp![])<;>rfl
def l4 (rows:List (Int×Int)):(sIf (tE (eOp yh (pV 1) (pE (eLst aNil)))) (sSet 3 (eOp zk (pE (eOp zk (pV 1) (kJ 0))) (kJ 0))) sSkip) [x0,some (.m (.lst (rows.map zf))),x2,some (.v (.int 0)),x4,x5,x6,x7,x8] h=.nx [x0,some (.m (.lst (rows.map zf))),x2,some (.v (.int (rows.headD (0,0)).1)),x4,x5,x6,x7,x8] h:=by
 have on:=BW (s:=[x0,some (.m (.lst (rows.map zf))),x2,some (.v (.int 0)),x4,x5,x6,x7,x8]) (h:=h) (f:= .s 1) (xs:=rows.map zf) rfl;rw[GZ]at on;cases rows with
 |nil=>
  rw[A4] at*;have e:([]:List (Int×Int)).isEmpty=true:=rfl
  (simp![on,e])<;>rfl
 |cons p r=>
  rw[Al] at*;have e:(p::r).isEmpty=false:=rfl;have ox:zk [x0,some (.m (.lst (zf p::r.map zf))),x2,some (.v (.int 0)),x4,x5,x6,x7,x8] h (.s 1) (.x (.int 0))=some (.v (zf p)):=by
   rw[DC];show (atI (zf p::r.map zf) 0).map Vl.v=_;rw[at0];rfl
  (simp![on,e,ox])<;>rfl
def l5:sFz 2 [x0,x1,some (.v K),x3,x4,x5,x6,x7,x8] h=.nx [x0,x1,some (.v K),x3,x4,x5,x6,x7,x8] h:=by
 (simp![])<;>rfl
def l6 {R':List V3} (hcal:CS [.loc 0,.lst R,.int rest] [.ins "Calendar" []]=.ok (.v .non) [.ins "Calendar" [("stretches",.lst R'),("beyond",.int rest)]]) (hlow:lowF 0 [(Str.ofString "stretches",V3.lst R'),(Str.ofString "beyond",V3.int rest)]=true):sSet 4 (eObj (eNew ("Calendar" :Str) CS (aCons (pE (eB bList (aCons (pV 1) aNil))) (aCons (pV 2) aNil)))) [x0,some (.m (.lst R)),some (.v (.int rest)),x3,x4,x5,x6,x7,x8] []=.nx [x0,some (.m (.lst R)),some (.v (.int rest)),x3,some (.m (.ins "Calendar" [("stretches",.lst R'),("beyond",.int rest)])),x5,x6,x7,x8] []:=by
 (simp![eObj,eNew,hcal,hlow])<;>rfl
def l7 (e:BG [.scr ns,.int base] h=.ok (.m (.lst L)) h):sSet 5 (eCall BG (aCons (pV 0) (aCons (pV 3) aNil))) [some (.v (.scr ns)),x1,x2,some (.v (.int base)),x4,x5,x6,x7,x8] h=.nx [some (.v (.scr ns)),x1,x2,some (.v (.int base)),x4,some (.m (.lst L)),x6,x7,x8] h:=by
 (simp![e])<;>rfl
def l8:sSet 6 (eB bList (aCons (pV 5) aNil)) [x0,x1,x2,x3,x4,some (.m (.lst L)),x6,x7,x8] h=.nx [x0,x1,x2,x3,x4,some (.m (.lst L)),some (.m (.lst L)),x7,x8] h:=by
 (simp![])<;>rfl
def l9:sFz 1 [x0,some (.m (.lst L)),x2,x3,x4,x5,x6,x7,x8] h=.nx [x0,some (.v (.lst L)),x2,x3,x4,x5,x6,x7,x8] h:=by
 (simp![])<;>rfl
def l9b:sFz 5 [x0,x1,x2,x3,x4,some (.m (.lst L)),x6,x7,x8] h=.nx [x0,x1,x2,x3,x4,some (.v (.lst L)),x6,x7,x8] h:=by
 (simp![])<;>rfl
end
def law_yes (ns:List Int) (_:ns.length<=63):Yes (f_law [.scr ns] []):=by
 unfold f_law Jj
 refine y9 rfl ?_
 have e0:yG [.scr ns,.int 0] []=.ok (.v (.int (cell ns 0))) []:=Hb ns 0 [];have e1:yG [.scr ns,.int 1] []=.ok (.v (.int (cell ns 1))) []:=Hb ns 1 [];have e2:∀h,yG [.scr ns,.int 2] h=.ok (.v (.int (cell ns 2))) h:=fun h=>Hb ns 2 h
 obtain⟨rows,er,hr⟩:=Tt (cell ns 0) []
 refine zG (l1 e0 er) (zG (l2 e1) (zG l3 (zG (l4 rows) (zG l5 ?_))))
 have hrest:1<=1+cell ns 1%16/\1+cell ns 1%16<=16:=by lia
 generalize 1+cell ns 1%16=rest at*;obtain⟨base,hb⟩:∃b,b=(rows.headD (0,0)).1:=⟨_,rfl⟩;rw[<-hb];have hbb:0<=base/\base<=900009:=by
  cases rows with
  |nil=>rw[hb];exact⟨by decide,by decide⟩
  |cons p r=>
   have:=hr.one p Aj;rw[hb];show 0<=p.1/\p.1<=_;lia
 have hrb:RwB rows rest:=⟨by have:=hr.len;lia,fun p hp=>by have:=hr.one p hp;lia,hrest⟩
 have hcal:=TL hrb [];rw[Cn,Cn,Dx]at hcal;have hlow:lowF 0 [(Str.ofString "stretches",V3.lst ((Cal.kform rest rows).map zf)),(Str.ofString "beyond",V3.int rest)]=true:=by
  simp only[lowF,low,MZ,Bool.and_self]
 have hl:(Cal.kform rest rows).length<=16:=Bi (Cal.kform_len rest rows) hrb.len;obtain⟨js,el,hj,sh⟩:=T8 ns hbb [];have ec:=Us hj (rows:=rows) (rest:=rest) hbb sh [];rw[Uj hj hr hb hbb.1 sh]at ec;have ek:=fun h=>TY hj hl rest h
 have ep:=fun h=>U2 hj (rest:=rest) hl h
 generalize y8 js (Cal.kform rest rows) rest=cs at*
 refine zG (l6 hcal hlow) (zG (l7 el) (zG l8 (zG l5 (zG l9 (zG l9b (zG (l10 ec) (zG l11 (zG l12 (zG (l13 (ek _)) (zG l14 (zG l15 ?_)))))))))))
 have g1:([]++[C3.lst (cs.map Cl.enc)])[0]? =some (C3.lst (cs.map Cl.enc)):=rfl
 refine zG (l16 (MX (.inr ⟨0,rfl,g1⟩)) (ep _) (UT js)) (zG (l17 g1 rfl) (zG l18 (zG l19 (zG l20 (zG (l21 (ek _) (MX (.inl rfl))) (zG l19 (zG l14 ?_)))))))
 rw[l22 (e2 _) (US hj _ _ _)];exact⟨_,rfl⟩
end My
namespace My
open PySem PySem.Spec PyProof.Rows L2 L3
def law_true:∀ns:List Int,ns.length<=63->∃h',f_law [.scr ns] []=.ok (.v (.bl true)) h':=law_yes
def txt {K:FG} {mg:Str->Option Value} {h:Heap} (X:K.In h) (G:h.Ns mainGlobals mg) (S:L4.seenK ask K=L4.good PySem.Challenge.pw_dueyard_k14_whole_cells ask):∃_:Txt K mg,True:=by
 obtain⟨f0,d0,a0,F0⟩:=L4.def_at S 0 rfl;obtain⟨f1,d1,a1,F1⟩:=L4.def_at S 1 rfl;obtain⟨f2,d2,a2,F2⟩:=L4.def_at S 2 rfl;obtain⟨f3,d3,a3,F3⟩:=L4.def_at S 3 rfl;obtain⟨f4,d4,a4,F4⟩:=L4.def_at S 4 rfl;obtain⟨f5,d5,a5,F5⟩:=L4.def_at S 5 rfl;obtain⟨f6,d6,a6,F6⟩:=L4.def_at S 6 rfl;obtain⟨f7,d7,a7,F7⟩:=L4.def_at S 7 rfl;obtain⟨f8,d8,a8,F8⟩:=L4.def_at S 8 rfl;obtain⟨f9,d9,a9,F9⟩:=L4.def_at S 9 rfl;obtain⟨f10,d10,a10,F10⟩:=L4.def_at S 10 rfl;obtain⟨f11,d11,a11,F11⟩:=L4.def_at S 11 rfl;obtain⟨f12,d12,a12,F12⟩:=L4.def_at S 12 rfl;obtain⟨f13,d13,a13,F13⟩:=L4.def_at S 13 rfl;obtain⟨f14,d14,a14,F14⟩:=L4.def_at S 14 rfl;obtain⟨f15,d15,a15,F15⟩:=L4.def_at S 15 rfl;obtain⟨f16,d16,a16,F16⟩:=L4.def_at S 16 rfl;obtain⟨f17,d17,a17,F17⟩:=L4.def_at S 17 rfl;obtain⟨f18,d18,a18,F18⟩:=L4.def_at S 18 rfl;obtain⟨f19,d19,a19,F19⟩:=L4.def_at S 19 rfl;obtain⟨f20,d20,a20,F20⟩:=L4.def_at S 20 rfl;obtain⟨f21,d21,a21,F21⟩:=L4.def_at S 21 rfl;obtain⟨f22,d22,a22,F22⟩:=L4.def_at S 22 rfl;obtain⟨f23,d23,a23,F23⟩:=L4.def_at S 23 rfl;obtain⟨f24,d24,a24,F24⟩:=L4.def_at S 24 rfl;obtain⟨f25,d25,a25,F25⟩:=L4.def_at S 25 rfl;obtain⟨f26,d26,a26,F26⟩:=L4.def_at S 26 rfl;obtain⟨f27,d27,a27,F27⟩:=L4.def_at S 27 rfl;obtain⟨f28,d28,a28,F28⟩:=L4.def_at S 28 rfl;obtain⟨f29,d29,a29,F29⟩:=L4.def_at S 29 rfl;obtain⟨C0,c0⟩:=L4.cls_at S 0 rfl;obtain⟨g0,e0,A0,M0,I0⟩:=c0.meth 0 _ rfl;obtain⟨g1,e1,A1,M1,I1⟩:=c0.meth 1 _ rfl;obtain⟨g2,e2,A2,M2,I2⟩:=c0.meth 2 _ rfl;obtain⟨t0,v0⟩:=L4.int_at S 0 rfl;obtain⟨t1,v1⟩:=L4.str_at S 1 rfl;obtain⟨t2,v2⟩:=L4.str_at S 2 rfl;obtain⟨t3,v3⟩:=L4.int_at S 3 rfl;obtain⟨t4,v4⟩:=L4.int_at S 4 rfl;obtain⟨t5,v5⟩:=L4.int_at S 5 rfl;obtain⟨t6,v6⟩:=L4.int_at S 6 rfl;obtain⟨t7,v7⟩:=L4.int_at S 7 rfl;obtain⟨t8,v8⟩:=L4.int_at S 8 rfl;obtain⟨t9,v9⟩:=L4.int_at S 9 rfl;obtain⟨t10,v10⟩:=L4.int_at S 10 rfl;obtain⟨E0,h0,x0⟩:=L4.exc_at S 0 rfl;obtain⟨E1,h1,x1⟩:=L4.exc_at S 1 rfl;obtain⟨E2,h2,x2⟩:=L4.exc_at S 2 rfl;obtain⟨E3,h3,x3⟩:=L4.exc_at S 3 rfl;obtain⟨E4,h4,x4⟩:=L4.exc_at S 4 rfl;obtain⟨EC0,EB0,ef0,ed0,hC0,hB0,xI0,cB0,eF0⟩:=L4.xi_at S 0 rfl;cases (h4.symm.trans hC0);cases (h0.symm.trans hB0)
 exact⟨⟨f0,d0,⟨F0,L4.b2 F0 fun _ _ _ _ _ _ _ _=>rfl,Ai X G a0⟩,f1,d1,⟨F1,L4.b1 F1 fun _ _ _ _ _ _ _=>rfl,Ai X G a1⟩,f2,d2,⟨F2,L4.b1 F2 fun _ _ _ _ _ _ _=>rfl,Ai X G a2⟩,f3,d3,⟨F3,L4.b2 F3 fun _ _ _ _ _ _ _ _=>rfl,Ai X G a3⟩,f4,d4,⟨F4,L4.b1 F4 fun _ _ _ _ _ _ _=>rfl,Ai X G a4⟩,f5,d5,⟨F5,L4.b3 F5 fun _ _ _ _ _ _ _ _ _=>rfl,Ai X G a5⟩,f6,d6,⟨F6,L4.b1 F6 fun _ _ _ _ _ _ _=>rfl,Ai X G a6⟩,f7,d7,⟨F7,L4.b1 F7 fun _ _ _ _ _ _ _=>rfl,Ai X G a7⟩,f8,d8,⟨F8,L4.b1 F8 fun _ _ _ _ _ _ _=>rfl,Ai X G a8⟩,f9,d9,⟨F9,L4.b1 F9 fun _ _ _ _ _ _ _=>rfl,Ai X G a9⟩,f10,d10,⟨F10,L4.b2 F10 fun _ _ _ _ _ _ _ _=>rfl,Ai X G a10⟩,f11,d11,⟨F11,L4.b3 F11 fun _ _ _ _ _ _ _ _ _=>rfl,Ai X G a11⟩,f12,d12,⟨F12,L4.b3 F12 fun _ _ _ _ _ _ _ _ _=>rfl,Ai X G a12⟩,f13,d13,⟨F13,L4.b2 F13 fun _ _ _ _ _ _ _ _=>rfl,Ai X G a13⟩,f14,d14,⟨F14,L4.b2 F14 fun _ _ _ _ _ _ _ _=>rfl,Ai X G a14⟩,f15,d15,⟨F15,L4.b3 F15 fun _ _ _ _ _ _ _ _ _=>rfl,Ai X G a15⟩,f16,d16,⟨F16,L4.b4 F16 fun _ _ _ _ _ _ _ _ _ _=>rfl,Ai X G a16⟩,f17,d17,⟨F17,L4.b1 F17 fun _ _ _ _ _ _ _=>rfl,Ai X G a17⟩,f18,d18,⟨F18,L4.b4 F18 fun _ _ _ _ _ _ _ _ _ _=>rfl,Ai X G a18⟩,f19,d19,⟨F19,L4.b1 F19 fun _ _ _ _ _ _ _=>rfl,Ai X G a19⟩,f20,d20,⟨F20,L4.b1 F20 fun _ _ _ _ _ _ _=>rfl,Ai X G a20⟩,f21,d21,⟨F21,L4.b2 F21 fun _ _ _ _ _ _ _ _=>rfl,Ai X G a21⟩,f22,d22,⟨F22,L4.b2 F22 fun _ _ _ _ _ _ _ _=>rfl,Ai X G a22⟩,f23,d23,⟨F23,L4.b2 F23 fun _ _ _ _ _ _ _ _=>rfl,Ai X G a23⟩,f24,d24,⟨F24,L4.b2 F24 fun _ _ _ _ _ _ _ _=>rfl,Ai X G a24⟩,f25,d25,⟨F25,L4.b3 F25 fun _ _ _ _ _ _ _ _ _=>rfl,Ai X G a25⟩,f26,d26,⟨F26,L4.b2 F26 fun _ _ _ _ _ _ _ _=>rfl,Ai X G a26⟩,f27,d27,⟨F27,L4.b2 F27 fun _ _ _ _ _ _ _ _=>rfl,Ai X G a27⟩,f28,d28,⟨F28,L4.b2 F28 fun _ _ _ _ _ _ _ _=>rfl,Ai X G a28⟩,f29,d29,⟨F29,L4.b1 F29 fun _ _ _ _ _ _ _=>rfl,Ai X G a29⟩,C0,c0.cls,Ai X G c0.g,g0,e0,⟨M0,L4.b3 M0 fun _ _ _ _ _ _ _ _ _=>rfl⟩,g1,e1,⟨M1,L4.b3 M1 fun _ _ _ _ _ _ _ _ _=>rfl⟩,⟨A1,I1,M1.kp⟩,g2,e2,⟨M2,L4.b2 M2 fun _ _ _ _ _ _ _ _=>rfl⟩,⟨A2,I2,M2.kp⟩,⟨c0.makes,A0,I0,c0.kp⟩,c0.fld 0 _ rfl,c0.fld 1 _ rfl,E0,Ai X G h0,E1,Ai X G h1,E2,Ai X G h2,E3,Ai X G h3,E4,Ai X G h4,⟨(x1 rfl).1,Ai X G h1⟩,(x1 rfl).2,⟨(x2 rfl).1,Ai X G h2⟩,(x2 rfl).2,⟨(x3 rfl).1,Ai X G h3⟩,(x3 rfl).2,ef0,ed0,xI0,cB0,eF0,L4.b2 eF0 fun _ _ _ _ _ _ _ _=>rfl,(L4.tab_at S 0 rfl h3 h3).1,(L4.tab_at S 0 rfl h3 h3).2,(L4.tab_at S 1 rfl h3 h4).1,(L4.tab_at S 1 rfl h3 h4).2,(L4.tab_at S 2 rfl h3 h1).1,(L4.tab_at S 2 rfl h3 h1).2,(L4.tab_at S 3 rfl h3 h2).1,(L4.tab_at S 3 rfl h3 h2).2,(L4.tab_at S 4 rfl h4 h3).1,(L4.tab_at S 4 rfl h4 h3).2,(L4.tab_at S 5 rfl h4 h4).1,(L4.tab_at S 5 rfl h4 h4).2,(L4.tab_at S 6 rfl h4 h1).1,(L4.tab_at S 6 rfl h4 h1).2,(L4.tab_at S 7 rfl h4 h2).1,(L4.tab_at S 7 rfl h4 h2).2,(L4.tab_at S 8 rfl h1 h3).1,(L4.tab_at S 8 rfl h1 h3).2,(L4.tab_at S 9 rfl h1 h4).1,(L4.tab_at S 9 rfl h1 h4).2,(L4.tab_at S 10 rfl h1 h1).1,(L4.tab_at S 10 rfl h1 h1).2,(L4.tab_at S 11 rfl h1 h2).1,(L4.tab_at S 11 rfl h1 h2).2,(L4.tab_at S 12 rfl h2 h3).1,(L4.tab_at S 12 rfl h2 h3).2,(L4.tab_at S 13 rfl h2 h4).1,(L4.tab_at S 13 rfl h2 h4).2,(L4.tab_at S 14 rfl h2 h1).1,(L4.tab_at S 14 rfl h2 h1).2,(L4.tab_at S 15 rfl h2 h2).1,(L4.tab_at S 15 rfl h2 h2).2,(L4.tab_at S 16 rfl h4 h0).1,(L4.tab_at S 16 rfl h4 h0).2,Bl X G (L4.bare_at S 0 rfl),Bl X G (L4.bare_at S 1 rfl),Bl X G (L4.bare_at S 2 rfl),Bl X G (L4.bare_at S 3 rfl),Bl X G (L4.bare_at S 4 rfl),Bl X G (L4.bare_at S 5 rfl),Bl X G (L4.bare_at S 6 rfl),Bl X G (L4.bare_at S 7 rfl),Bl X G (L4.bare_at S 8 rfl),Bl X G (L4.bare_at S 9 rfl),Bl X G (L4.bare_at S 10 rfl),Bl X G (L4.bare_at S 11 rfl),Bl X G (L4.bare_at S 12 rfl),Bl X G (L4.bare_at S 13 rfl),Bl X G (L4.bare_at S 14 rfl),Bl X G (L4.bare_at S 15 rfl),Bl X G (L4.bare_at S 16 rfl),t0,Ai X G v0,t1,Ai X G v1,t2,Ai X G v2,t3,Ai X G v3,t4,Ai X G v4,t5,Ai X G v5,t6,Ai X G v6,t7,Ai X G v7,t8,Ai X G v8,t9,Ai X G v9,t10,Ai X G v10⟩,trivial⟩
def d_law:PySem.DefRec:=⟨"law",EL (zP 54),BN (zP 54),zC (zP 54),⟨258,0,274,88⟩⟩
end My
open PySem PySem.W PyProof.Rows
set_option maxRecDepth 100000 in
set_option maxHeartbeats 0 in
theorem PySem.Challenge.cw_dueyard_k14_whole_cells_holds : PySem.Challenge.rw_dueyard_k14_whole_cells.Holds := by
 w_on;o_law
 refine PySem.W.holds_open (q:=L4.lawView My.ask PySem.Challenge.pw_dueyard_k14_whole_cells) (loose:=L4.looseOf PySem.Challenge.pw_dueyard_k14_whole_cells) (Xt:=fun _=>true) (XP:=fun _ _=>True) (YP:=fun _ h=> ∃K:Frag,K.In h/\L4.seenK My.ask K=L4.good PySem.Challenge.pw_dueyard_k14_whole_cells My.ask) (d:=My.d_law) (kwd:=[]) (N:=20000) (L4.left_one (good:=L4.good PySem.Challenge.pw_dueyard_k14_whole_cells My.ask) (by kernel_rfl) (by decide) (fun _=>rfl) My.one) (fun w s e=>L4.seen_ok w s e) (fun w h h'=>L4.seen_keeps w h h') (fun _ _=>trivial) (fun _ _ _ _ _=>trivial) (by kernel_rfl) (by kernel_rfl) rfl (fun _ _=>recFacts_nil rfl) rfl (by assumption) (by decide+kernel) ⟨rfl,rfl,rfl,rfl,rfl,by decide+kernel⟩ ?hw ?hc
 case hw=>w_witness2
 case hc=>
  refine L4.walk_one (l:=PySem.Challenge.rw_dueyard_k14_whole_cells) (n:=63) (k:=8) (x:="_law_script") (CX:=fun w=>L2.XT PySem.Challenge.rw_dueyard_k14_whole_cells.prog w) (sp:=L3.spL) rfl (by decide) rfl ⟨rfl,by decide,by decide⟩ ?F (fun _ _ a ns hl hO hS=>⟨a,ns,rfl,hl,hS,hO,fun _=>rfl⟩) fun _ _ _ _ _ z=>L3.noX z
  intro w mg fa h K KX G S hmg;obtain⟨T,_⟩:=My.txt KX G S;have e:=hmg.symm.trans T.d_law.g;cases e;exact⟨T.fd_law,L4.binds_law T.d_law.F fun _ _ _ _ _ _ _=>rfl,fun base _ _=>(My.G_law (P:=PySem.Challenge.rw_dueyard_k14_whole_cells.prog) (w:=w) (base:=base) T).imp (sp':=L3.spL K) fun vs H Q E h=>L3.spL_of (κ:=My.kx T) My.law_true h⟩
