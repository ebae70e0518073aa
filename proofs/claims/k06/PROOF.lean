import PyProof.Rows.All
import Wide.All
import OpenK.AllK
import Wide.FinOn
import Lean
import PyProof.EqAt
import PyProof.EqKinds
import PyProof.TupleCall
import KE.KSortTup
import KE.KUnpack
import PyProof.ExcBaseAll.ValueError
import KE.KTryMore
import PyProof.Rows.Catch
import PyProof.NsDelKeeps
import KE.KIsAll
import PyProof.ExcArgsOwn
import PyProof.InstStore
import PyProof.DictRoadsH
import PyProof.EnumFor
import PyProof.EnumStmt
import PyProof.EnumMake
import PyProof.MaxThree
import KE.KDictList
import PyProof.NeKinds
import KE.KEqDict
import KE.KxText
import PyProof.WalkInts
import PyProof.SeqI3
import KE.KIntText
import KE.KClos
import KE.KNest
import KE.KRevIter
import PyProof.ListRange
import PyProof.TupleOfSeq
import PyProof.DictIter
import PyProof.DictWalks
import PyProof.FString5
import KE.KLam
import PyProof.Calls
import PySem.Challenge.RW_dueyard_k06_refused_turns_and_calendars
abbrev VP:=PySem.Value->PySem.Shared->Prop
abbrev AL:=List (PySem.Addr×PySem.Obj)
abbrev AO:=List (Option PySem.Addr)
abbrev FG:=PySem.W.Frag
set_option linter.all false
def Aa:=@if_pos
def Ab:=@if_neg
def Ac:=@PyProof.Rows.wpS_bind
def Ad:=@PyProof.Rows.wpS_pure
def Ae:=@PySem.wpAny_bind
def Af:=@beq_iff_eq
def Ag:=@List.mem_cons
def Ah:=@PySem.W.mg_of
def Ai:=@PySem.wpAny_pure
def Aj:=@PySem.Heap.lt_size
def Ak:=@List.map_cons
def Al:=@List.size_toArray
def Am:=@List.mem_of_getElem?
def An:=@List.length_append
def Ao:=@PySem.Heap.get?_push_of_some
def Ap:=@List.length_map
def Aq:=@List.getElem?_eq_some_iff
def Ar:=@Array.length_toList
def As:=@Bool.and_eq_true
def Au:=@Nat.ne_of_lt
def Av:=@Ne.symm
def Aw:=@List.append_assoc
def Ax:=@List.mem_cons_self
def Ay:=@List.length_cons
def Az:=@Nat.lt_of_lt_of_le
def A1:=@List.mem_cons_of_mem
def A2:=@Bool.false_ne_true
def A4:=@Option.map_some
def A5:=@List.length_take
def A6:=@decide_eq_false
def A7:=@PySem.wpAny_mono
def A8:=@List.getElem?_append_left
def A9:=@Bool.false_and
def Bb:=@List.length_set
def Bc:=@List.mem_of_mem_take
def Be:=@PyProof.Rows.boot_isinstance
def Bf:=@List.map_nil
def Bg:=@PyProof.Rows.wpS_mono
def Bh:=@PyProof.Rows.wpS_forRange
def Bi:=@List.mem_append
def Bj:=@List.mem_append_right
def Bk:=@List.getElem?_append_right
def Bl:=@List.getElem?_map
def Bm:=@List.mem_singleton
def Bn:=@PySem.Heap.get?_push_size
def Bo:=@List.append_nil
def Bp:=@decide_eq_true
def Bq:=@List.lookup_cons
def Br:=@Nat.zero_add
def Bt:=@List.getD_eq_getElem?_getD
def Bu:=@Bool.true_and
def Bv:=@List.getElem?_take_of_lt
def Bw:=@PySem.wpAny_loadPart_at
def Bx:=@List.take_append_drop
def By:=@List.map_append
def Bz:=@PySem.W.mg_none_of
def B0:=@PySem.W.kia_one
def B1:=@List.nodup_cons
def B2:=@List.length_replicate
def B3:=@List.flatten_cons
def B4:=@List.nil_append
def B5:=@Array.toList_append
def B6:=@Nat.lt_irrefl
def B7:=@List.mem_range
def B8:=@List.mem_append_left
def B9:=@Nat.zero_le
def Ca:=@PySem.mem_of_lookup
def Cb:=@if_true
def Cc:=@List.length_drop
def Cd:=@Array.toList_push
def Ce:=@PyProof.Rows.wpS_modify
def Cf:=@PyProof.Rows.wpS_get
def Cg:=@or_false
def Ci:=@PySem.sizeLine_eq
def Cj:=@List.replicate_succ
def Ck:=@Array.getElem?_toList
def Cm:=@List.all_eq_true
def Cn:=@List.pairwise_append
def Co:=@List.getElem?_set
def Cp:=@Nat.le_of_lt
def Cq:=@PySem.W.looks_findIn
def Cr:=@Array.ext'
def Cs:=@Array.toList_extract
def Ct:=@List.extract_eq_take_drop
def Cu:=@List.drop_length
def Cv:=@List.map_map
def Cw:=@List.getElem?_of_mem
def Cy:=@PySem.wpAny_holding
def Cz:=@Nat.ne_of_gt
def C1:=@PySem.wpAny_Call_Name_kw
def C2:=@if_false
def C4:=@decide_eq_true_eq
def C5:=@List.length_nil
def C6:=@List.take_zero
def C7:=@List.mem_map
def C8:=@List.not_mem_nil
def C9:=@Bool.and_false
def Da:=@PySem.wpAny_truthy_bool
def Dc:=@PySem.wpAny_call
def Dd:=@PySem.codeAny_mono
def De:=@Nat.le_succ
def Df:=@PySem.wpAny_field
def Dg:=@PySem.Heap.get?_update_other
def Dh:=@List.foldl_cons
def Di:=@List.perm_append_comm
def Dj:=@Nat.add_zero
def Dk:=@of_decide_eq_true
def Dl:=@of_decide_eq_false
def Dm:=@PySem.strLen_append
def Dn:=@PySem.boot_len
def Do:=@PySem.W.hideAll_none
def Dp:=@PySem.wpAny_newObj_type
def Dq:=@Bool.false_eq_true
def Dr:=@Array.getElem?_eq_some_iff
def Ds:=@List.mem_iff_getElem?
def Dt:=@List.take_add_one
def Du:=@List.drop_zero
def Dv:=@List.getElem?_cons_zero
def Dw:=@List.getElem?_cons_succ
def Dx:=@Option.some.injEq
def Dy:=@Prod.mk.injEq
def Dz:=@PySem.PassesOwn.leaving
def D0:=@List.cons_append
def D1:=@List.map_id
def D2:=@beq_eq_false_iff_ne
def D4:=@List.getElem?_set_ne
def D5:=@List.mem_filterMap
def D6:=@PySem.wpAny_passesOwn
def D7:=@PySem.Heap.get?_update_self
def D8:=@List.length_singleton
def D9:=@PySem.F.excBase_ValueError
def Ea:=@List.getElem?_eq_none
def Eb:=@PySem.W.Looks.ld
def Ec:=@PySem.codeAny_call_builtin
def Ed:=@PySem.W.looks_subIn
def Ee:=@List.getElem?_drop
def Ef:=@List.drop_eq_getElem_cons
def Eg:=@List.drop_eq_nil_of_le
def Eh:=@List.mem_of_mem_drop
def Ei:=@List.pairwise_cons
def Ej:=@Array.getD_eq_getD_getElem?
def Ek:=@Array.perm_iff_toList_perm
def El:=@List.eq_nil_of_length_eq_zero
def Em:=@PySem.F.slot_list_append
def En:=@PySem.F.type_list_append
def Eo:=@List.concat_eq_append
def Ep:=@PySem.W.of_hideAll
def Er:=@List.filterMap_cons
def Es:=@List.getElem?_set_self
def Et:=@PySem.W.callWith_K
def Eu:=@List.of_mem_zip
def Ew:=@Option.isSome_iff_exists
def Ex:=@List.getElem?_replicate
def Ey:=@beq_self_eq_true
def Ez:=@PySem.wpAny_setField
def Fb:=@List.nodup_nil
def Fc:=@List.pairwise_iff_getElem
def Fd:=@List.take_of_length_le
def Fe:=@List.mem_reverse
def Ff:=@Array.toList_reverse
def Fg:=@Nat.add_sub_cancel_left
def Fh:=@Classical.byContradiction
def Fi:=@Option.bind_some
def Fj:=@Option.map_eq_some_iff
def Fl:=@Int.toNat_natCast
def Fo:=@PySem.Heap.get?_none_of_le
def Fp:=@PyProof.Rows.callWith_type1
def Fq:=@PyProof.Rows.slot_tuple_getitem
def Fs:=@PySem.Calls.callWith_builtin
def Ft:=@PySem.Calls.evalArgs_plain
def Fu:=@PySem.W.funFrames_hide
def Fv:=@PySem.F.typeOf_object_class
def Fw:=@List.pairwise_singleton
def Fx:=@List.drop_append_of_le_length
def Fy:=@List.take_append_of_le_length
def Fz:=@Nat.eq_of_beq_eq_true
def Ga:=@PyProof.Rows.boot_tuple
def Gb:=@PyProof.Rows.boot_list
def Gc:=@PyProof.Rows.boot_all
def Ge:=@List.eq_nil_or_concat
def Gf:=@Int.eq_ofNat_of_zero_le
universe u
noncomputable section
def z0 {α:Type u} {l:List α} {i:Nat} (h:i<l.length):l[i]?=some l[i]:=List.getElem?_eq_getElem h
def zd {a b:Prop} (h:a) (k:b):a/\b:=⟨h,k⟩
set_option Elab.async false
set_option compiler.extract_closed false
set_option bootstrap.genMatcherCode false
set_option genSizeOfSpec false
set_option genSizeOf false
local macro_rules | `(tactic|lia)=>`(tactic|first|assumption|lia (splits:=9)|omega)
set_option linter.all false
set_option maxRecDepth 100000
namespace L2
open PySem PySem.Spec PyProof.Rows
abbrev zw:=Sum Int Str
noncomputable def Ju:zw->Value->Bool
 |.inl k,v=>Value.isInt k v
 |.inr x,v=>Value.isStrOf x v
noncomputable def keyH (w:World):zw->Int
 |.inl k=>hashInt k
 |.inr x=>hashStr w x
def AF:∀{k:zw} {v:Value},Ju k v=true->(∃i t,k=Sum.inl i/\v=Value.int i t)\/(∃x t,k=Sum.inr x/\v=Value.str x t)
 |.inl i,v,h=>by
  obtain⟨t,e⟩:=Value.isInt_shape (k:=i) (v:=v) h;exact .inl ⟨i,t,rfl,e⟩
 |.inr x,v,h=>by
  obtain⟨t,e⟩:=Value.isStrOf_shape (x:=x) (v:=v) h;exact .inr ⟨x,t,rfl,e⟩
def MD (a b:Int):decide ((Sum.inl a:zw)=Sum.inl b)=(a==b):=by
 by_cases e:a=b
 .subst e;simp
 .have h: ¬(Sum.inl a:zw)=Sum.inl b:=fun q=>e (Sum.inl.inj q)
  rw[A6 h];exact (D2.mpr e).symm
def ME (a b:Str):decide ((Sum.inr a:zw)=Sum.inr b)=decide (a=b):=by
 by_cases e:a=b
 .subst e;simp
 .have h: ¬(Sum.inr a:zw)=Sum.inr b:=fun q=>e (Sum.inr.inj q)
  rw[A6 h,A6 e]
def MF (a:Int) (b:Str):decide ((Sum.inl a:zw)=Sum.inr b)=false:=A6 (fun q=>nomatch q)
def MG (a:Str) (b:Int):decide ((Sum.inr a:zw)=Sum.inl b)=false:=A6 (fun q=>nomatch q)
def BI (prog:Program) (w:World):PySem.KeyKind prog w zw where
 is:=Ju
 hash:=keyH w
 inj:=fun v a b ha hb=>by
  rcases AF ha with ⟨i,t,rfl,rfl⟩|⟨x,t,rfl,rfl⟩
  .rcases AF hb with ⟨j,u,rfl,e⟩|⟨y,u,rfl,e⟩
   .injection e with e1 _;rw[e1]
   .exact nomatch e
  .rcases AF hb with ⟨j,u,rfl,e⟩|⟨y,u,rfl,e⟩
   .exact nomatch e
   .injection e with e1 _;rw[e1]
 byValue:=fun k v h=>by
  rcases AF h with ⟨i,t,rfl,rfl⟩|⟨x,t,rfl,rfl⟩<;>rfl
 pyHash:=fun hv h=>by
  rcases AF hv with ⟨i,t,rfl,rfl⟩|⟨x,t,rfl,rfl⟩
  .exact wpAny_pyHash_int h
  .exact wpAny_pyHash_str h
 eqBool:=fun hu hv h=>by
  rcases AF hu with ⟨i,t,rfl,rfl⟩|⟨x,t,rfl,rfl⟩
  .rcases AF hv with ⟨j,u,rfl,rfl⟩|⟨y,u,rfl,rfl⟩
   .rw[MD]at h;exact wpAny_eqBool_int h
   .rw[MF]at h;exact SeqAt.EqAt.int_str i t y u _ _ _ _ h
  .rcases AF hv with ⟨j,u,rfl,rfl⟩|⟨y,u,rfl,rfl⟩
   .rw[MG]at h;exact SeqAt.EqAt.str_int x t j u _ _ _ _ h
   .rw[ME]at h;exact wpAny_eqBool_str h
 «strs» :=fun k x t v h=>by
  rcases AF h with ⟨i,u,rfl,e⟩|⟨y,u,rfl,e⟩
  .exact nomatch e
  .injection e with e1 _
   subst e1;cases v<;>rfl
inductive V where
 |non|bl (b:Bool)|int (i:Int)|str (x:Str)|byt (b:Array UInt8)|flt (b:UInt64)|ref (a:Addr)|ty (n:String)
 deriving DecidableEq
def RelV:V->Value->Prop
 |.non,u=>u=Value.none
 |.bl b,u=>u=Value.bool b
 |.int i,u=> ∃t,u=Value.int i t
 |.str x,u=> ∃t,u=Value.str x t
 |.byt b,u=> ∃t,u=Value.bytes b t
 |.flt b,u=> ∃t,u=Value.float b t
 |.ref a,u=>u=Value.ref a
 |.ty n,u=>u=Value.type n
abbrev Vals:List V->List Value->Prop:=Paired RelV
theorem Vals.length {xs:List V} {us:List Value} (r:Vals xs us):xs.length=us.length:=Paired.length r
theorem Vals.get:∀{xs:List V} {us:List Value} {i:Nat} {x:V},Vals xs us->xs[i]? =some x->∃u,us[i]? =some u/\RelV x u
 |_,_,_,_,.nil,e=>by simp at e
 |_,_,0,_,.cons r _,e=>by simp at e;subst e;exact⟨_,rfl,r⟩
 |_,_,i+1,x,.cons _ t,e=>by
  obtain⟨u,h1,h2⟩:=Vals.get (i:=i) (x:=x) t (by simpa using e)
  exact⟨u,by simpa using h1,h2⟩
theorem Vals.set {x:V} {u:Value} (r:RelV x u):∀{xs:List V} {us:List Value} (i:Nat),Vals xs us->Vals (xs.set i x) (us.set i u)
 |_,_,_,.nil=>.nil
 |_,_,0,.cons _ t=>.cons r t
 |_,_,i+1,.cons q t=>.cons q (Vals.set r i t)
theorem Vals.append:∀{xs ys:List V} {us ws:List Value},Vals xs us->Vals ys ws->Vals (xs++ys) (us++ws)
 |_,_,_,_,.nil,s=>s
 |_,_,_,_,.cons r t,s=>.cons r (Vals.append t s)
theorem Vals.take:∀{xs:List V} {us:List Value} (n:Nat),Vals xs us->Vals (xs.take n) (us.take n)
 |_,_,0,_=>.nil
 |_,_,_+1,.nil=>.nil
 |_,_,n+1,.cons r t=>.cons r (Vals.take n t)
theorem Vals.drop:∀{xs:List V} {us:List Value} (n:Nat),Vals xs us->Vals (xs.drop n) (us.drop n)
 |_,_,0,r=>r
 |_,_,_+1,.nil=>.nil
 |_,_,n+1,.cons _ t=>Vals.drop n t
def RelO:Option V->Option Value->Prop
 |some v,some u=>RelV v u
 |none,none=>True
 |_,_=>False
def KV {κ:Type}:List (κ×V)->List (κ×Value)->Prop:=Paired fun (p:κ×V) (q:κ×Value)=>p.1=q.1/\RelV p.2 q.2
noncomputable def kV:zw->V
 |.inl i=>.int i
 |.inr x=>.str x
inductive MK where
 |one (k:zw)
 |tup (ks:List zw)
 deriving DecidableEq
def MK.hash (P:Program) (w:World):MK->Int
 |.one k=>(BI P w).hash k
 |.tup ks=>tupleKeyHash (BI P w) ks
def entM (P:Program) (w:World) (x:MK×Value×Value):DictEntry:=⟨x.1.hash P w,x.2.1,x.2.2⟩
inductive HO where
 |lst (xs:List V)
 |tup (xs:List V)
 |dK (kvs:List (zw×V))|dT (kvs:List (MK×V))
 |set (S:Int->Bool) (n:Nat)
 |ins (C dx:Addr) (fs:List (Str×V))
 |own (x:Addr)
 |xd (fs:List (Str×V))
 |met (f x:Addr)
 |rng (lo hi:Int)
 |frz (o:Obj) (u:HO)
 |tbl (ps:Array Value)
 |ext (φ:Heap->Prop)
abbrev Hp:=Addr->Option HO
def KyV (H:Hp):MK->Value->Prop
 |.one k,u=>RelV (kV k) u
 |.tup ks,u=> ∃b,u=.ref b/\H b=some (.tup (ks.map kV))
def KyV.mono {H H':Hp} (ht:∀b xs,H b=some (.tup xs)->H' b=some (.tup xs)):∀{k:MK} {u:Value},KyV H k u->KyV H' k u
 |.one _,_,h=>h
 |.tup _,_,⟨b,e,q⟩=>⟨b,e,ht _ _ q⟩
noncomputable def zh (H:Hp) (a:Addr) (o:HO):Hp:=fun b=>if b=a then some o else H b
def zF {H:Hp} {a:Addr} {o:HO}:zh H a o a=some o:=by unfold zh;rw[Aa rfl]
def zj {H:Hp} {a b:Addr} {o:HO} (h:b≠a):zh H a o b=H b:=by unfold zh;rw[Ab h]
def Hw {H:Hp} {a:Addr} {o u:HO}:zh (zh H a o) a u=zh H a u:=by
 funext b;unfold zh;split<;>rfl
def MH {H:Hp} {a b:Addr} {o u:HO} (h:H a=some o) (h':H b=some u) (d:o≠u):a≠b:=by
 intro e;subst e;rw[h]at h';exact d (Option.some.inj h')
def ym {H:Hp} {a b:Addr} {o:HO} (h:H a=some o) (h':H b=none):a≠b:=by
 intro e;subst e;rw[h]at h';cases h'
section
variable (P:Program) (w:World)
def ObjOk (H:Hp) (h:Heap) (a:Addr):HO->Prop
 |.lst xs=>xs.length<=sizeLine/\∃(its:List Value) (n:Nat),Vals xs its/\h.get? a=some {cls:= .type "list",data:= .seq its.toArray n}
 |.tup xs=>xs.length<=sizeLine/\∃its:List Value,Vals xs its/\IsTup h a its.toArray
 |.dK kvs=>kvs.length<=sizeLine/\(a==sysModules)=false/\∃vs,KV kvs vs/\h.DictOf (BI P w) a vs
 |.dT kvs=>kvs.length<=sizeLine/\(a==sysModules)=false/\∃xs:List (MK×Value×Value),Paired (fun (p:MK×V) (q:MK×Value×Value)=>p.1=q.1/\KyV H p.1 q.2.1/\RelV p.2 q.2.2) kvs xs/\
  ∃o es ep,h.get? a=some o/\o.ExactDict/\o.data=.dict es ep/\es.toList=xs.map (entM P w)/\(xs.map (·.1)).Nodup/\ep=xs.length
 |.set S n=>h.SetOf (intKind P w) a S n
 |.ins C dx fs=>H dx=some (.own a)/\fs.length<=1000/\dx≠a/\h.get? a=some (PySem.W.instObj C dx)/\
  ∃mA,h.Ns1 dx mA/\(∀f,RelO (fs.lookup f) (mA f))/\PySem.Within mA (fs.map (·.1))
 |.own _=> ∃o,h.get? a=some o
 |.xd fs=> ∃mA,h.Ns1 a mA/\∀f,RelO (fs.lookup f) (mA f)
 |.rng lo hi=> ∃t u v,h.get? a=some {cls:= .type "range",data:= .fields #[.int lo t,.int hi u,.int 1 v]}
 |.frz o u=>h.get? a=some o/\ObjOk H h a u
 |.tbl ps=>h.get? a=some {cls:= .none,data:= .fields ps}
 |.met f x=>h.get? a=some (PySem.W.methodObj (.ref f) (.ref x))
 |.ext φ=>φ h/\(∃o,h.get? a=some o)/\∀h1 h2:Heap,φ h1->(∀o,h1.get? a=some o->h2.get? a=some o)->φ h2
def HOk (H:Hp) (h:Heap):Prop:=∀a o,H a=some o->ObjOk P w H h a o
end
section
variable {P:Program} {w:World} {H H':Hp} {h h':Heap} {a:Addr} {o:HO}
theorem ObjOk.lt (x:ObjOk P w H h a o):a<h.objs.size:=by
 cases o with
 |lst xs=>obtain⟨_,_,_,_,e⟩:=x;exact Aj e
 |tup xs=>obtain⟨_,_,_,p⟩:=x;exact p.lt
 |dK kvs=>obtain⟨_,_,_,_,o,_,_,e,_⟩:=x;exact Aj e
 |dT kvs=>obtain⟨_,_,_,_,o,_,_,e,_⟩:=x;exact Aj e
 |set S n=>obtain⟨o,_,_,_,e,_⟩:=x;exact Aj e
 |ins C dx fs=>obtain⟨_,_,_,e,_⟩:=x;exact Aj e
 |own y=>obtain⟨_,e⟩:=x;exact Aj e
 |xd fs=>obtain⟨_,⟨_,_,_,e,_⟩,_⟩:=x;exact Aj e
 |rng lo hi=>obtain⟨_,_,_,e⟩:=x;exact Aj e
 |frz ob u=>obtain⟨e,_⟩:=x;exact Aj e
 |tbl ps=>exact Aj (show h.get? a=some _ from x)
 |met f y=>exact Aj (show h.get? a=some _ from x)
 |ext φ=>obtain⟨_,⟨_,e⟩,_⟩:=x;exact Aj e
theorem Paired.mapP {α β:Type} {F G:α->β->Prop}:∀{l₁:List α} {l₂:List β},Paired F l₁ l₂->(∀a b,F a b->G a b)->Paired G l₁ l₂
 |_,_,.nil,_=>.nil
 |_,_,.cons r t,f=>.cons (f _ _ r) (Paired.mapP t f)
def Paired.imp' {α β:Type} {F G:α->β->Prop} (f:∀a b,F a b->G a b) {l₁:List α} {l₂:List β} (r:Paired F l₁ l₂):Paired G l₁ l₂:=Paired.mapP r f
def ObjOk.stay (x:ObjOk P w H h a o) (k:∀b u,(b=a\/H b=some (.own a))->h.get? b=some u->h'.get? b=some u)
  (ho:∀b,H b=some (.own a)->H' b=some (.own a)) (ht:∀b xs,H b=some (.tup xs)->H' b=some (.tup xs)):ObjOk P w H' h' a o:=by
 induction o with
 |lst xs=>obtain⟨z,its,n,r,e⟩:=x;exact⟨z,its,n,r,k _ _ (.inl rfl) e⟩
 |tup xs=>obtain⟨z,its,r,ob,e,c⟩:=x;exact⟨z,its,r,ob,k _ _ (.inl rfl) e,c⟩
 |dK kvs=>obtain⟨z,y,vs,r,ob,es,ep,e,c⟩:=x;exact⟨z,y,vs,r,ob,es,ep,k _ _ (.inl rfl) e,c⟩
 |dT kvs=>
  obtain⟨z,y,xs,r,ob,es,ep,e,c⟩:=x;exact⟨z,y,xs,Paired.mapP r fun p q z=>⟨z.1,z.2.1.mono ht,z.2.2⟩,ob,es,ep,k _ _ (.inl rfl) e,c⟩
 |set S n=>obtain⟨ob,es,ep,t,e,c⟩:=x;exact⟨ob,es,ep,t,k _ _ (.inl rfl) e,c⟩
 |ins C dx fs=>
  obtain⟨d,z,ne,e,mA,⟨od,es,ep,e2,c⟩,r⟩:=x;exact⟨ho _ d,z,ne,k _ _ (.inl rfl) e,mA,⟨od,es,ep,k _ _ (.inr d) e2,c⟩,r⟩
 |own y=>obtain⟨ob,e⟩:=x;exact⟨ob,k _ _ (.inl rfl) e⟩
 |xd fs=>obtain⟨mA,⟨od,es,ep,e,c⟩,r⟩:=x;exact⟨mA,⟨od,es,ep,k _ _ (.inl rfl) e,c⟩,r⟩
 |rng lo hi=>obtain⟨t,u,v,e⟩:=x;exact⟨t,u,v,k _ _ (.inl rfl) e⟩
 |frz ob u ih=>obtain⟨e,q⟩:=x;exact⟨k _ _ (.inl rfl) e,ih q⟩
 |tbl ps=>
  have e:h.get? a=some {cls:= .none,data:= .fields ps}:=x;show h'.get? a=some {cls:= .none,data:= .fields ps};exact k a _ (.inl rfl) e
 |met f y=>
  have e:h.get? a=some (PySem.W.methodObj (.ref f) (.ref y)):=x;show h'.get? a=some (PySem.W.methodObj (.ref f) (.ref y));exact k a _ (.inl rfl) e
 |ext φ=>obtain⟨p,⟨o,e⟩,st⟩:=x;exact⟨st _ _ p fun o q=>k _ _ (.inl rfl) q,⟨o,k _ _ (.inl rfl) e⟩,st⟩
theorem HOk.lt (x:HOk P w H h) (e:H a=some o):a<h.objs.size:=(x a o e).lt
def HOk.fresh (x:HOk P w H h) (e:h.objs.size<=a):H a=none:=by
 cases q:H a with
 |none=>rfl
 |some u=>exact absurd (Az (x.lt q) e) (B6 _)
def HOk.kept (x:HOk P w H h) (k:∀b u,h.get? b=some u->h'.get? b=some u):HOk P w H h':=fun a o e=>
 (x a o e).stay (fun b u _ q=>k b u q) (fun _ q=>q) fun _ _ q=>q
def HOk.laid (x:HOk P w H h) (k:∀b u,h.get? b=some u->h'.get? b=some u) (hp:h.objs.size<=a) (new:ObjOk P w (zh H a o) h' a o):HOk P w (zh H a o) h':=fun b u e=>by
 have hn:=x.fresh hp
 by_cases hb:b=a
 .subst hb;rw[zF]at e;cases e;exact new
 .rw[zj hb]at e
  exact (x b u e).stay (fun c v _ q=>k c v q) (fun c q=>by rw[zj (ym q hn)];exact q) fun c xs q=>by rw[zj (ym q hn)];exact q
end
def Rd (H:Hp) (a:Addr) (u:HO):Prop:=H a=some u\/∃o,H a=some (.frz o u)
def Rd.ok {P:Program} {w:World} {H:Hp} {h:Heap} {a:Addr} {u:HO} (r:Rd H a u) (x:HOk P w H h):ObjOk P w H h a u:=by
 rcases r with r|⟨o,r⟩
 .exact x a u r
 .obtain⟨_,q⟩:=x a _ r
  exact q
def Mut:Option HO->Prop
 |some (.lst _)=>True
 |some (.dK _)=>True
 |some (.dT _)=>True
 |some (.set _ _)=>True
 |some (.ins _ _ _)=>True
 |some (.ext _)=>True
 |_=>False
section
variable {P:Program} {w:World} {H:Hp} {h h':Heap} {x e:Addr} {o':HO}
def HOk.write (ok:HOk P w H h) (mu:Mut (H x)) (he:e=x\/H e=some (.own x)) (k:∀b u,b≠e->h.get? b=some u->h'.get? b=some u) (heo:∃u,h'.get? e=some u)
  (new:ObjOk P w (zh H x o') h' x o'):HOk P w (zh H x o') h':=fun b u q=>by
 have nown:∀c y,H c=some (.own y)->c≠x:=fun c y r z=>by subst z;rw[r]at mu;exact mu
 have ntup:∀c xs,H c=some (.tup xs)->c≠x:=fun c xs r z=>by subst z;rw[r]at mu;exact mu
 by_cases hb:b=x
 .subst hb;rw[zF]at q;cases q;exact new
 .rw[zj hb]at q
  by_cases hbe:b=e
  .have q':H b=some (.own x):=by
    rcases he with z|z
    .exact absurd (hbe.trans z) hb
    .rw[hbe];exact z
   rw[q]at q';cases q';obtain⟨v,hv⟩:=heo;exact⟨v,by rw[hbe];exact hv⟩
  .refine (ok b u q).stay (fun c v hc r=>k c v ?_ r) (fun c r=>by rw[zj (nown c b r)];exact r) fun c xs r=>by rw[zj (ntup c xs r)];exact r
   rcases hc with rfl|hc
   .exact hbe
   .rintro rfl
    rcases he with z|z
    .exact nown c b hc z
    .rw[hc]at z;cases z;exact hb rfl
end
structure Un (fs ex:List Addr) (H H':Hp) (h h':Heap):Prop where
 keep:∀b o,h.get? b=some o->H b=none->b∉fs->b∉ex->h'.get? b=some o
 slot:∀b o,h.get? b=some o->H b=none->b∈fs->b∉ex->∃sl,h'.get? b=some {o with slots:=sl}
 free:∀b o,h.get? b=some o->H b=none->b∉ex->H' b=none
 there:∀b o,h.get? b=some o->b∉ex->∃o',h'.get? b=some o'
 tups:∀b xs,H b=some (.tup xs)->H' b=some (.tup xs)
 frzs:∀b o u,H b=some (.frz o u)->H' b=some (.frz o u)
 tbls:∀b ps,H b=some (.tbl ps)->∃more,H' b=some (.tbl (ps++more))
section
variable {fs fs' ex ex':List Addr} {H H1 H2:Hp} {h h1 h2 h':Heap} {a x e:Addr} {o:HO}
def Un.any (u:Un fs ex H H1 h h1) {b:Addr} {ob:Obj} (q:h.get? b=some ob) (n:H b=none) (hx:b∉ex):∃sl,h1.get? b=some {ob with slots:=sl}:=by
 by_cases hb:b∈fs
 .exact u.slot b ob q n hb hx
 .exact⟨ob.slots,u.keep b ob q n hb hx⟩
def Un.kept (k:∀b u,h.get? b=some u->h'.get? b=some u):Un fs ex H H h h':=
 ⟨fun b ob q _ _ _=>k b ob q,fun b ob q _ _ _=>⟨ob.slots,k b ob q⟩,fun _ _ _ n _=>n,fun b ob q _=>⟨ob,k b ob q⟩,fun _ _ q=>q,fun _ _ _ q=>q,fun _ ps q=>⟨#[],by rw[q];simp⟩⟩
def Un.refl:Un fs ex H H h h:=Un.kept fun _ _ q=>q
def Un.laid (k:∀b u,h.get? b=some u->h'.get? b=some u) (hp:h.objs.size<=a) (hn:H a=none):Un fs ex H (zh H a o) h h' where
 keep:=fun b u q _ _ _=>k b u q
 slot:=fun b u q _ _ _=>⟨u.slots,k b u q⟩
 free:=fun b u q n _=>by rw[zj (Au (Az (Aj q) hp))];exact n
 there:=fun b u q _=>⟨u,k b u q⟩
 tups:=fun b xs q=>by rw[zj (ym q hn)];exact q
 frzs:=fun b u xs q=>by rw[zj (ym q hn)];exact q
 tbls:=fun b ps q=>⟨#[],by rw[zj (ym q hn),q];simp⟩
def Un.write (mu:Mut (H x)) (he:e=x\/H e=some (.own x)) (k:∀b u,b≠e->h.get? b=some u->h'.get? b=some u) (heo:∃u,h'.get? e=some u):Un fs ex H (zh H x o) h h':=by
 have hx:∀b,H b=none->b≠x:=fun b n z=>by subst z;rw[n]at mu;exact mu
 have hb:∀b,H b=none->b≠e:=fun b n z=>by
  subst z
  rcases he with r|r
  .exact hx b n r
  .rw[n]at r;cases r
 have hm:∀b u,H b=some u->¬Mut (some u)->b≠x:=fun b u q nm z=>by subst z;rw[q]at mu;exact nm mu
 refine⟨fun b u q n _ _=>k b u (hb b n) q,fun b u q n _ _=>⟨u.slots,k b u (hb b n) q⟩,fun b u q n _=>by rw[zj (hx b n)];exact n,fun b u q _=>?_,
  fun b xs q=>by rw[zj (hm b _ q fun z=>z)];exact q,fun b u xs q=>by rw[zj (hm b _ q fun z=>z)];exact q,fun b ps q=>⟨#[],by rw[zj (hm b _ q fun z=>z),q];simp⟩⟩
 by_cases hbe:b=e
 .subst hbe;exact heo
 .exact⟨u,k b u hbe q⟩
end
noncomputable def trk (h:Heap) (H:Hp):List Addr:=(List.range h.objs.size).filter fun a=>(H a).isSome
def yG (h:Heap) (H:Hp):Heap:=PySem.W.hideAll h (trk h H)
def MI (h:Heap) (H:Hp):(yG h H).objs.size=h.objs.size:=PySem.W.hideAll_size _ _
def MJ {h:Heap} {H:Hp} {b:Addr} {o:Obj} (e:h.get? b=some o) (n:H b=none):(yG h H).get? b=some o:=
 PySem.W.hideAll_get _ e fun hm=>by
  have q:(H b).isSome=true:=(List.mem_filter.mp hm).2;rw[n]at q;simp at q
def ML {h:Heap} {H:Hp} {b:Addr} {o:Obj} (e:(yG h H).get? b=some o):h.get? b=some o/\H b=none:=by
 have e':h.get? b=some o:=Ep (trk h H) e
 refine⟨e',?_⟩
 cases q:H b with
 |none=>rfl
 |some x=>
  have hm:b∈trk h H:=List.mem_filter.mpr ⟨B7.mpr (Aj e'),by simp[q]⟩
  have z:(yG h H).get? b=none:=Do (trk h H) hm;rw[z]at e;cases e
structure Mod (K:FG) (mg:Str->Option Value) (base:Heap):Prop where
 kin:K.In base
 glob:base.Ns mainGlobals mg
 blt:∃mb,base.Ns builtinsNs mb/\∀x:Str,x≠"__name__" ->mb x=bootBuiltins x
 nolimit:base.NoLimit
structure Cx where
 prog:Program
 w:World
 K:FG
 mg:Str->Option Value
 base:Heap
 A:Around
 N:List Str
 s₀:Shared
 H₀:Hp
 env:Env
 outer:List Env
 stack:List Env
 ex:List Addr
 fn:Str->Bool
 calm:Bool
 pn:AL
 xe:VP
abbrev SE (X:Cx) (e:Expr) (es:List Expr):Prop:=starEach (e::es) X.env=(false,eval e X.env)::starEach es X.env
abbrev BA (X:Cx) (pos:Pos) (es:List Expr):Prop:=(backTo pos (starEach es X.env)).any (·.1)=false
def z6 (l:List Env):List Addr:=l.filterMap (·.frame)
abbrev Cx.fs (X:Cx):List Addr:=z6 X.outer
def Vis (sc:Scope) (x:Str):Prop:=sc.names.lookup x=some .local\/sc.names.lookup x=some .cell\/sc.names.lookup x=some .free
def Loc (sc:Scope) (x:Str):Prop:=sc.names.lookup x=some .local\/sc.names.lookup x=some .cell
def Look (env:Env) (h:Heap) (m:Str->Option Value) (x:Str) (u:Value):Prop:=
 (env.kindOf x=some .local/\m x=some u)\/((env.kindOf x=some .cell\/env.kindOf x=some .free)/\∃c,env.cells.lookup x=some c/\h.IsCell c (some u))
structure Cx.Ok (X:Cx):Prop where
 mod:Mod X.K X.mg X.base
 kind:X.env.scope.kind=.function
 glob:X.env.globals=mainGlobals
 blt:X.env.builtins=builtinsNs
 above:X.s₀.heap.objs.size<=X.env.locals
 inj:∀x y c,X.env.cells.lookup x=some c->X.env.cells.lookup y=some c->x=y
 has:∀x,(X.env.kindOf x=some .cell\/X.env.kindOf x=some .free)->∃c,X.env.cells.lookup x=some c
 cab:∀x c,X.fn x=true->X.env.cells.lookup x=some c->X.s₀.heap.objs.size<=c
 hd:X.calm=true->X.A.handled=none
 frames:X.A.frames=some X.stack
 stk:X.stack=X.outer\/(X.stack=X.env::X.outer/\X.env.frame=some X.env.locals)
 exf:∀b∈X.ex,b≠X.env.locals/\∀x c,X.env.cells.lookup x=some c->c≠b
 bs:∀b o,X.base.get? b=some o->X.s₀.heap.get? b=some o/\X.H₀ b=none
 bsz:X.base.objs.size<=X.s₀.heap.objs.size
 noex:∀b o,X.base.get? b=some o->b∉X.ex
 exfs:∀b∈X.ex,b∉X.fs
 funs:X.s₀.heap.FunFrames X.base X.outer
 frf:∀b∈X.fs,X.H₀ b=none
structure Inv (X:Cx) (pins:AL) (σ:List (Option V)) (H:Hp) (s:Shared):Prop where
 ok:X.Ok
 os:s.os=X.s₀.os
 bare:AllBare s.gens
 base:Un X.fs X.ex X.H₀ H X.s₀.heap s.heap
 loc:∃m,s.heap.Ns X.env.locals m/\∀(i:Nat) (x:Str) (v:V),X.N[i]? =some x->σ[i]? =some (some v)->Vis X.env.scope x->∃u,RelV v u/\Look X.env s.heap m x u
 cell:∀x c,X.env.cells.lookup x=some c->∃v,s.heap.IsCell c v
 free:H X.env.locals=none
 freeC:∀x c,X.env.cells.lookup x=some c->H c=none
 pin:∀p∈X.pn++pins,s.heap.get? p.1=some p.2/\H p.1=none/\p.1≠X.env.locals/\p.1∉X.fs/\∀v,p.2.data≠ .cell v
 hok:HOk X.prog X.w H s.heap
 len:σ.length=X.N.length
section
variable {X:Cx} {pins:AL} {σ:List (Option V)} {H H':Hp} {s:Shared} {h':Heap}
def Cx.Ok.nofr (ok:X.Ok) {b:Addr} {o:Obj} (e:X.base.get? b=some o):b∉X.fs:=fun hb=>by
 have:=(ok.funs.mem hb).1;rw[e]at this;cases this
theorem Inv.bs (I:Inv X pins σ H s):∀b o,X.base.get? b=some o->s.heap.get? b=some o/\H b=none:=fun b o e=>
 ⟨I.base.keep b o (I.ok.bs b o e).1 (I.ok.bs b o e).2 (I.ok.nofr e) (I.ok.noex b o e),I.base.free b o (I.ok.bs b o e).1 (I.ok.bs b o e).2 (I.ok.noex b o e)⟩
def Inv.bk (I:Inv X pins σ H s):∀b o,X.base.get? b=some o->s.heap.get? b=some o:=fun b o e=>(I.bs b o e).1
theorem Inv.mod (I:Inv X pins σ H s):Mod X.K X.mg X.base:=I.ok.mod
def Inv.kIn (I:Inv X pins σ H s):X.K.In s.heap:=I.ok.mod.kin.keeps I.bk
theorem Inv.lt (I:Inv X pins σ H s):X.env.locals<s.heap.objs.size:=let ⟨_,hn,_⟩:=I.loc;hn.lt
def Inv.sz (I:Inv X pins σ H s):X.s₀.heap.objs.size<=s.heap.objs.size:=Nat.le_trans I.ok.above (Cp I.lt)
def Inv.nofs (I:Inv X pins σ H s) {a:Addr} (h:s.heap.objs.size<=a):a∉X.fs:=fun hb=>by
 obtain⟨_,o,ho,_⟩:=I.ok.funs.mem hb;exact absurd (Az (Aj ho) (Nat.le_trans I.sz h)) (B6 _)
def Inv.cne (I:Inv X pins σ H s):∀x c,X.env.cells.lookup x=some c->c≠X.env.locals:=fun x c e z=>by
 obtain⟨v,o,ho,hd⟩:=I.cell x c e;obtain⟨m,⟨o',es,ep,ho',hd',_⟩,_⟩:=I.loc;rw[z,ho']at ho;cases ho;rw[hd']at hd;cases hd
theorem Inv.funs (I:Inv X pins σ H s):s.heap.FunFrames X.base X.outer:=by
 have all:∀(l:List Env),(∀b∈z6 l,b∈X.fs)->X.s₀.heap.FunFrames X.base l->s.heap.FunFrames X.base l:=by
  intro l
  induction l with
  |nil=>intro _ _;trivial
  |cons env r ih=>
   intro hs hl;obtain⟨hk,⟨L,o,hf,hn,ho,hd⟩,hr⟩:=hl;have hL:L∈X.fs:=hs L (by unfold z6;rw[Er,hf];exact Ax)
   obtain⟨sl,e⟩:=I.base.slot L o ho (I.ok.frf L hL) hL fun z=>I.ok.exfs L z hL
   exact⟨hk,⟨L,_,hf,hn,e,hd⟩,ih (fun b hb=>hs b (by unfold z6;rw[Er,hf];exact A1 _ hb)) hr⟩
 exact all X.outer (fun _ hb=>hb) I.ok.funs
theorem Inv.stack (I:Inv X pins σ H s):s.heap.FunFrames X.base X.stack:=by
 rcases I.ok.stk with e|⟨e,hf⟩
 .rw[e];exact I.funs
 .rw[e]
  obtain⟨m,hn,_⟩:=I.loc
  refine .cons (by rw[I.ok.kind];decide) hf hn ?_ I.funs
  exact Fo (Nat.le_trans I.ok.bsz I.ok.above)
def Inv.stkSub (I:Inv X pins σ H s):∀b∈z6 X.stack,b∈X.env.locals::X.fs:=fun b hb=>by
 rcases I.ok.stk with e|⟨e,hf⟩
 .rw[e]at hb;exact A1 _ hb
 .rw[e]at hb
  unfold z6 at hb;rw[Er,hf]at hb;exact hb
def Inv.stkFree (I:Inv X pins σ H s):∀b∈z6 X.stack,H b=none:=fun b hb=>by
 rcases Ag.mp (I.stkSub b hb) with e|hb
 .rw[e];exact I.free
 .obtain⟨_,o,ho,_⟩:=I.ok.funs.mem hb
  exact I.base.free b o ho (I.ok.frf b hb) fun z=>I.ok.exfs b z hb
def Inv.step {g':Array GenState} {t':Nat} {d':Drawn} {ch:List Addr} (I:Inv X pins σ H s)
  (hch:∀b∈ch,(b∈X.ex\/X.s₀.heap.objs.size<=b)/\b≠X.env.locals/\(∀x c,X.env.cells.lookup x=some c->c≠b)/\∀p∈X.pn++pins,p.1≠b)
  (keep:∀b o,b≠X.env.locals->b∉X.fs->b∉ch->s.heap.get? b=some o->H b=none->h'.get? b=some o)
  (slot:∀b o,b≠X.env.locals->b∈X.fs->b∉ch->s.heap.get? b=some o->H b=none->∃sl,h'.get? b=some {o with slots:=sl}) (free:∀b o,b∉ch->s.heap.get? b=some o->H b=none->H' b=none)
  (there:∀b o,b∉ch->s.heap.get? b=some o->∃o',h'.get? b=some o')
  (tups:∀b xs,H b=some (.tup xs)->H' b=some (.tup xs)) (frzs:∀b o u,H b=some (.frz o u)->H' b=some (.frz o u)) (tbls:∀b ps,H b=some (.tbl ps)->∃more,H' b=some (.tbl (ps++more)))
  (ns:∀m,s.heap.Ns X.env.locals m->h'.Ns X.env.locals m) (hok:HOk X.prog X.w H' h') (hg:AllBare g'):
  Inv X pins σ H' {s with heap:=h',gens:=g',drawn:=d',toks:=t'}:=by
 have neL:∀b o,X.s₀.heap.get? b=some o->b≠X.env.locals:=fun b o e=>Au (Az (Aj e) I.ok.above)
 have neC:∀b o,X.s₀.heap.get? b=some o->b∉X.ex->b∉ch:=fun b o e hx hb=>by
  rcases (hch b hb).1 with z|z
  .exact hx z
  .exact absurd (Az (Aj e) z) (B6 _)
 have cellK:∀x c,X.env.cells.lookup x=some c->∀v,s.heap.IsCell c v->h'.IsCell c v:=fun x c e v ⟨o,ho,hd⟩=>by
  have nch:c∉ch:=fun z=>(hch c z).2.2.1 x c e rfl
  by_cases hc:c∈X.fs
  .obtain⟨sl,q⟩:=slot c o (I.cne x c e) hc nch ho (I.freeC x c e)
   exact⟨_,q,hd⟩
  .exact⟨o,keep c o (I.cne x c e) hc nch ho (I.freeC x c e),hd⟩
 refine⟨I.ok,I.os,hg,⟨fun b o e n hb hx=>?_,fun b o e n hb hx=>?_,fun b o e n hx=>?_,fun b o e hx=>?_,fun b xs e=>tups b xs (I.base.tups b xs e),fun b o xs e=>frzs b o xs (I.base.frzs b o xs e),fun b ps e=>?_⟩,?_,fun x c e=>?_,?_,fun x c e=>?_,fun p hp=>?_,hok,I.len⟩
 .exact keep b o (neL b o e) hb (neC b o e hx) (I.base.keep b o e n hb hx) (I.base.free b o e n hx)
 .obtain⟨sl,e1⟩:=I.base.slot b o e n hb hx
  obtain⟨sl',e2⟩:=slot b _ (neL b o e) hb (neC b o e hx) e1 (I.base.free b o e n hx);exact⟨sl',e2⟩
 .obtain⟨o',e1⟩:=I.base.there b o e hx
  exact free b o' (neC b o e hx) e1 (I.base.free b o e n hx)
 .obtain⟨o',e1⟩:=I.base.there b o e hx
  exact there b o' (neC b o e hx) e1
 .obtain⟨m1,e1⟩:=I.base.tbls b ps e
  obtain⟨m2,e2⟩:=tbls b _ e1;exact⟨m1++m2,by rw[e2,Array.append_assoc]⟩
 .obtain⟨m,hn,hl⟩:=I.loc
  refine⟨m,ns m hn,fun i x v e1 e2 e3=>?_⟩
  obtain⟨u,r,l⟩:=hl i x v e1 e2 e3
  refine⟨u,r,?_⟩
  rcases l with l|⟨k,c,e,z⟩
  .exact .inl l
  .exact .inr ⟨k,c,e,cellK x c e _ z⟩
 .obtain⟨v,z⟩:=I.cell x c e
  exact⟨v,cellK x c e v z⟩
 .obtain⟨m,⟨o,_,_,ho,_⟩,_⟩:=I.loc
  exact free _ o (fun z=>(hch _ z).2.1 rfl) ho I.free
 .obtain⟨v,o,ho,hd⟩:=I.cell x c e
  exact free c o (fun z=>(hch c z).2.2.1 x c e rfl) ho (I.freeC x c e)
 .obtain⟨e,n,ne,nf,d⟩:=I.pin p hp
  have nch:p.1∉ch:=fun z=>(hch p.1 z).2.2.2 p hp rfl
  exact⟨keep p.1 p.2 ne nf nch e n,free p.1 p.2 nch e n,ne,nf,d⟩
def Inv.un {t':Nat} (I:Inv X pins σ H s) (u:Un X.fs [] H H' s.heap h') (hok:HOk X.prog X.w H' h'):Inv X pins σ H' {s with heap:=h',toks:=t'}:=by
 obtain⟨m,⟨o,es,ep,ho,r⟩,_⟩:=id I.loc;obtain⟨sl,hL⟩:=u.any ho I.free (by simp)
 exact I.step (g':=s.gens) (d':=s.drawn) (ch:=[]) (fun _ z=>nomatch z) (fun b o _ hb _ e n=>u.keep b o e n hb (by simp)) (fun b o _ hb _ e n=>u.slot b o e n hb (by simp)) (fun b o _ e n=>u.free b o e n (by simp)) (fun b o _ e=>u.there b o e (by simp)) u.tups u.frzs u.tbls (fun m' hm=>by
  obtain⟨o',es',ep',ho',r'⟩:=hm;rw[ho]at ho';cases ho';exact⟨_,es',ep',hL,r'⟩) hok I.bare
def Inv.call {g':Array GenState} {t':Nat} {d':Drawn} {ch:List Addr} (I:Inv X pins σ H s) (u:Un (z6 X.stack) ch H H' s.heap h') (hok:HOk X.prog X.w H' h') (hg:AllBare g')
  (hch:∀b∈ch,(b∈X.ex\/X.s₀.heap.objs.size<=b)/\b≠X.env.locals/\(∀x c,X.env.cells.lookup x=some c->c≠b)/\∀p∈X.pn++pins,p.1≠b):
  Inv X pins σ H' {s with heap:=h',gens:=g',drawn:=d',toks:=t'}:=by
 obtain⟨m,⟨o,es,ep,ho,r⟩,_⟩:=id I.loc;obtain⟨sl,hL⟩:=u.any ho I.free fun z=>(hch _ z).2.1 rfl
 exact I.step (ch:=ch) hch (fun b o hL hb hc e n=>u.keep b o e n (fun z=>(Ag.mp (I.stkSub b z)).elim hL hb) hc) (fun b o _ _ hc e n=>u.any e n hc) (fun b o hc e n=>u.free b o e n hc) (fun b o hc e=>u.there b o e hc) u.tups u.frzs u.tbls (fun m' hm=>by
  obtain⟨o',es',ep',ho',r'⟩:=hm;rw[ho]at ho';cases ho';exact⟨_,es',ep',hL,r'⟩) hok hg
def Inv.turned {t':Nat} {it:Addr} (I:Inv X pins σ H s) (k:∀b o,b≠it->s.heap.get? b=some o->h'.get? b=some o) (hn:H it=none) (hL:it≠X.env.locals)
  (h1:it∈X.ex\/X.s₀.heap.objs.size<=it) (h2:∀x c,X.env.cells.lookup x=some c->c≠it) (h3:∀p∈X.pn++pins,p.1≠it):Inv X pins σ H {s with heap:=h',toks:=t'}:=by
 have nit:∀b u,H b=some u->b≠it:=fun b u e z=>by rw[z,hn]at e;cases e
 refine I.step (g':=s.gens) (d':=s.drawn) (ch:=[it]) (fun b hb=>?_) (fun b o _ _ hc e _=>k b o (fun z=>hc (by simp[z])) e) (fun b o _ _ hc e _=>⟨o.slots,k b o (fun z=>hc (by simp[z])) e⟩) (fun _ _ _ _ n=>n)
  (fun b o hc e=>⟨o,k b o (fun z=>hc (by simp[z])) e⟩) (fun _ _ e=>e) (fun _ _ _ e=>e) (fun b ps e=>⟨#[],by rw[e];simp⟩) (fun m hm=>?_) (fun b u e=>?_) I.bare
 .have e:b=it:=by simpa using hb
  subst e;exact⟨h1,hL,h2,h3⟩
 .obtain⟨o,es,ep,ho,r⟩:=hm
  exact⟨o,es,ep,k _ o (Av hL) ho,r⟩
 .refine (I.hok b u e).stay (fun c v hc q=>k c v ?_ q) (fun _ q=>q) fun _ _ q=>q
  rcases hc with z|z
  .rw[z];exact nit b u e
  .exact nit c _ z
def Inv.tok (I:Inv X pins σ H s) (t:Nat):Inv X pins σ H {s with toks:=t}:=I.un (h':=s.heap) (t':=t) Un.refl I.hok
theorem Inv.kept {t':Nat} (I:Inv X pins σ H s) (k:∀b u,s.heap.get? b=some u->h'.get? b=some u):Inv X pins σ H {s with heap:=h',toks:=t'}:=I.un (Un.kept k) (I.hok.kept k)
theorem Inv.laid {a:Addr} {o:HO} {t':Nat} (I:Inv X pins σ H s) (k:∀b u,s.heap.get? b=some u->h'.get? b=some u) (hp:s.heap.objs.size<=a) (new:ObjOk X.prog X.w (zh H a o) h' a o):
 Inv X pins σ (zh H a o) {s with heap:=h',toks:=t'}:=I.un (Un.laid k hp (I.hok.fresh hp)) (I.hok.laid k hp new)
theorem Inv.write {x e:Addr} {o:HO} {t':Nat} (I:Inv X pins σ H s) (mu:Mut (H x)) (he:e=x\/H e=some (.own x)) (k:∀b u,b≠e->s.heap.get? b=some u->h'.get? b=some u) (heo:∃u,h'.get? e=some u)
 (new:ObjOk X.prog X.w (zh H x o) h' x o):Inv X pins σ (zh H x o) {s with heap:=h',toks:=t'}:=I.un (Un.write mu he k heo) (I.hok.write mu he k heo new)
def Inv.pins_of {pins':AL} (I:Inv X pins σ H s) (h:∀p∈pins',s.heap.get? p.1=some p.2/\H p.1=none/\p.1≠X.env.locals/\p.1∉X.fs/\∀v,p.2.data≠ .cell v):Inv X pins' σ H s:=
 ⟨I.ok,I.os,I.bare,I.base,I.loc,I.cell,I.free,I.freeC,fun p hp=>(Bi.mp hp).elim (fun z=>I.pin p (B8 _ z)) (h p),I.hok,I.len⟩
def Hx {N:List Str} (hN:N.Nodup) {i j:Nat} {x:Str} (a:N[i]? =some x) (b:N[j]? =some x):i=j:=by
 obtain⟨h1,e1⟩:=Aq.mp a;obtain⟨h2,e2⟩:=Aq.mp b;exact (List.getElem_inj hN).mp (e1.trans e2.symm)
def MM {M:Model} {A:Around} {E:VP} {i:Nat} {x:Str} {v:V} {u:Value} {Q:Unit->Shared->Prop} (I:Inv X pins σ H s) (hN:X.N.Nodup) (hi:X.N[i]? =some x) (hx:Loc X.env.scope x) (r:RelV v u)
  (h:∀s',Inv X pins (σ.set i (some v)) H s'->(∃a,Heap.SameBut a s.heap s'.heap/\(a=X.env.locals\/X.env.cells.lookup x=some a))->Q () s') (hf:X.fn x=true\/X.env.scope.names.lookup x=some .local:=by first|exact .inl rfl|exact .inr rfl|assumption):wpAny M A (storeName X.env x u) Q E s:=by
 obtain⟨m,hn,hl⟩:=id I.loc;have hcls:(X.env.scope.kind== .class || (X.env.scope.kind== .module && X.env.locals !=X.env.globals))=false:=by rw[I.ok.kind];rfl
 have hiσ:i<σ.length:=by rw[I.len];exact (Aq.mp hi).1
 have cne:=I.cne;have tracked:∀{a:Addr} {h':Heap},(∃o,s.heap.get? a=some o/\H a=none)->Heap.SameBut a s.heap h'->HOk X.prog X.w H h':=fun {a h'} ha hs b ob e=>by
  obtain⟨_,_,hfree⟩:=ha
  refine (I.hok b ob e).stay (fun c w' hc q=>(hs.2 c ?_).trans q) (fun _ q=>q) fun _ _ q=>q
  rintro rfl
  rcases hc with rfl|hc
  .rw[hfree]at e;cases e
  .rw[hfree]at hc;cases hc
 rcases hx with hk|hk
 .refine wpAny_storeName_local hk hn (fun h' hn' hs=>?_) hcls
  obtain⟨oL,_,_,hoL,_⟩:=id hn
  refine h _ ⟨I.ok,I.os,I.bare,⟨fun b o e n hb hx=>?_,fun b o e n hb hx=>?_,I.base.free,fun b o e hx=>?_,I.base.tups,I.base.frzs,I.base.tbls⟩,⟨_,hn',fun j y v' e1 e2 e3=>?_⟩,fun y c e=>?_,I.free,I.freeC,fun p hp=>?_,tracked ⟨oL,hoL,I.free⟩ hs,by simpa using I.len⟩ ⟨_,hs,.inl rfl⟩
  .exact (hs.2 b (Au (Az (Aj e) I.ok.above))).trans (I.base.keep b o e n hb hx)
  .obtain⟨sl,e1⟩:=I.base.slot b o e n hb hx
   exact⟨sl,(hs.2 b (Au (Az (Aj e) I.ok.above))).trans e1⟩
  .obtain⟨o',e1⟩:=I.base.there b o e hx
   exact⟨o',(hs.2 b (Au (Az (Aj e) I.ok.above))).trans e1⟩
  .by_cases hj:j=i
   .subst hj
    rw[hi]at e1;cases e1;rw[Es hiσ]at e2;cases e2;exact⟨u,r,.inl ⟨hk,by simp⟩⟩
   .rw[D4 (Av hj)]at e2
    obtain⟨u',r',q⟩:=hl j y v' e1 e2 e3
    refine⟨u',r',?_⟩
    rcases q with ⟨k,e⟩|⟨k,c,e,z⟩
    .refine .inl ⟨k,?_⟩
     have:y≠x:=fun e=>hj (Hx hN e1 (e ▸ hi))
     simp[this,e]
    .exact .inr ⟨k,c,e,z.sameBut hs (cne y c e)⟩
  .obtain⟨w',z⟩:=I.cell y c e
   exact⟨w',z.sameBut hs (cne y c e)⟩
  .obtain⟨e,n,ne,nf,d⟩:=I.pin p hp
   exact⟨(hs.2 p.1 ne).trans e,n,ne,nf,d⟩
 .have hfn:X.fn x=true:=by
   rcases hf with z|z
   .exact z
   .rw[z]at hk;cases hk
  obtain⟨c,hc⟩:=I.ok.has x (.inl hk);obtain⟨w',z⟩:=I.cell x c hc
  refine wpAny_storeName_cell I.ok.kind hk hc z (fun h' hc' hs=>?_)
  obtain⟨oc,hoc,hocd⟩:=id z
  refine h {s with heap:=h'} ⟨I.ok,I.os,I.bare,⟨fun b o e n hb hx=>?_,fun b o e n hb hx=>?_,I.base.free,fun b o e hx=>?_,I.base.tups,I.base.frzs,I.base.tbls⟩,⟨m,hn.sameBut hs (Av (cne x c hc)),fun j y v' e1 e2 e3=>?_⟩,fun y c' e=>?_,I.free,I.freeC,fun p hp=>?_,tracked ⟨oc,hoc,I.freeC x c hc⟩ hs,by simpa using I.len⟩ ⟨c,hs,.inr hc⟩
  .exact (hs.2 b (Au (Az (Aj e) (I.ok.cab x c hfn hc)))).trans (I.base.keep b o e n hb hx)
  .obtain⟨sl,e1⟩:=I.base.slot b o e n hb hx
   exact⟨sl,(hs.2 b (Au (Az (Aj e) (I.ok.cab x c hfn hc)))).trans e1⟩
  .obtain⟨o',e1⟩:=I.base.there b o e hx
   exact⟨o',(hs.2 b (Au (Az (Aj e) (I.ok.cab x c hfn hc)))).trans e1⟩
  .by_cases hj:j=i
   .subst hj
    rw[hi]at e1;cases e1;rw[Es hiσ]at e2;cases e2;exact⟨u,r,.inr ⟨.inl hk,c,hc,hc'⟩⟩
   .rw[D4 (Av hj)]at e2
    obtain⟨u',r',q⟩:=hl j y v' e1 e2 e3
    refine⟨u',r',?_⟩
    rcases q with q|⟨k,c',e,z'⟩
    .exact .inl q
    .refine .inr ⟨k,c',e,z'.sameBut hs ?_⟩
     rintro rfl;exact hj (Hx hN e1 (I.ok.inj _ _ _ e hc ▸ hi))
  .by_cases hcc:c'=c
   .subst hcc;exact⟨_,hc'⟩
   .obtain⟨w2,z2⟩:=I.cell y c' e
    exact⟨w2,z2.sameBut hs hcc⟩
  .obtain⟨e,n,ne,nf,d⟩:=I.pin p hp
   refine⟨(hs.2 p.1 ?_).trans e,n,ne,nf,d⟩
   intro q;rw[q,hoc]at e;have q':oc=p.2:=Option.some.inj e;exact d w' (by rw[<-q'];exact hocd)
def Gh {M:Model} {A:Around} {E:VP} {i:Nat} {x:Str} {v:V} {u:Value} {Q:Unit->Shared->Prop} (I:Inv X pins σ H s) (hN:X.N.Nodup) (hi:X.N[i]? =some x) (hx:Loc X.env.scope x) (r:RelV v u)
  (h:∀s',Inv X pins (σ.set i (some v)) H s'->Q () s') (hf:X.fn x=true\/X.env.scope.names.lookup x=some .local:=by first|exact .inl rfl|exact .inr rfl|assumption):wpAny M A (storeName X.env x u) Q E s:=
 MM I hN hi hx r (fun s' I' _=>h s' I') hf
def Inv.call' {s':Shared} {ch:List Addr} (I:Inv X pins σ H s) (ho:s'.os=s.os) (u:Un (z6 X.stack) ch H H' s.heap s'.heap) (hok:HOk X.prog X.w H' s'.heap) (hg:AllBare s'.gens)
  (hch:∀b∈ch,(b∈X.ex\/X.s₀.heap.objs.size<=b)/\b≠X.env.locals/\(∀x c,X.env.cells.lookup x=some c->c≠b)/\∀p∈X.pn++pins,p.1≠b):Inv X pins σ H' s':=by
 obtain⟨h',g',d',t',o'⟩:=s';have e:o'=s.os:=ho;subst e;exact I.call (g':=g') (t':=t') (d':=d') u hok hg hch
end
abbrev XK:=Value->Option Addr->Hp->Prop
abbrev St:=List (Option V)
abbrev VK:=V->Hp->Prop
abbrev TE:=St->Hp->VK->Prop
abbrev TT:=St->Hp->(Bool->Hp->Prop)->Prop
abbrev TA:=St->Hp->(List V->Hp->Prop)->Prop
structure Ends where
 nx:St->Hp->Prop
 rt:VK
 bk:St->Hp->Prop:=fun _ _=>False
 ct:St->Hp->Prop:=fun _ _=>False
abbrev TS:=Ends->St->Hp->Prop
def EP (X:Cx) (pins:AL) (σ:St) (Q:VK) (u:Value) (s':Shared):Prop:=∃v H',Inv X pins σ H' s'/\RelV v u/\Q v H'
def TP (X:Cx) (pins:AL) (σ:St) (Q:Bool->Hp->Prop) (b:Bool) (s':Shared):Prop:=∃H',Inv X pins σ H' s'/\Q b H'
def AP (X:Cx) (pins:AL) (σ:St) (Q:List V->Hp->Prop) (us:List Value) (s':Shared):Prop:=∃vs H',Inv X pins σ H' s'/\Vals vs us/\Q vs H'
def SP (X:Cx) (pins:AL) (D:Ends) (f:Flow) (s':Shared):Prop:=
 match f with
 |.next=> ∃σ' H',Inv X pins σ' H' s'/\D.nx σ' H'
 |.brk=> ∃σ' H',Inv X pins σ' H' s'/\D.bk σ' H'
 |.cont=> ∃σ' H',Inv X pins σ' H' s'/\D.ct σ' H'
 |.ret u=> ∃v σ' H',Inv X pins σ' H' s'/\RelV v u/\D.rt v H'
def PE (X:Cx) (e:Expr) (t:TE):Prop:=
 ∀(pins:AL) (s:Shared) (σ:St) (H:Hp) (Q:VK),Inv X pins σ H s->t σ H Q->wpAny (model X.prog X.w) X.A (eval e X.env) (EP X pins σ Q) X.xe s
def PT (X:Cx) (e:Expr) (t:TT):Prop:=
 ∀(pins:AL) (s:Shared) (σ:St) (H:Hp) (Q:Bool->Hp->Prop),Inv X pins σ H s->t σ H Q->wpAny (model X.prog X.w) X.A (isTrue e X.env (eval e X.env)) (TP X pins σ Q) X.xe s
def PW (X:Cx) (e:Expr) (t:TT):Prop:=
 ∀(whole:Sem Value) (pins:AL) (s:Shared) (σ:St) (H:Hp) (Q:Bool->Hp->Prop),Inv X pins σ H s->t σ H Q->wpAny (model X.prog X.w) X.A (isTrue e X.env whole) (TP X pins σ Q) X.xe s
def PW.pt {X:Cx} {e:Expr} {t:TT} (h:PW X e t):PT X e t:=h _
def PA (X:Cx) (es:List Expr) (t:TA):Prop:=
 ∀(pos:Pos) (pins:AL) (s:Shared) (σ:St) (H:Hp) (Q:List V->Hp->Prop),Inv X pins σ H s->t σ H Q->wpAny (model X.prog X.w) X.A (spliced (backTo pos (starEach es X.env))) (AP X pins σ Q) X.xe s
def PS (X:Cx) (st:Stmt) (t:TS):Prop:=
 ∀(pins:AL) (s:Shared) (σ:St) (H:Hp) (D:Ends),Inv X pins σ H s->t D σ H->wpAny (model X.prog X.w) X.A (exec st X.env) (SP X pins D) X.xe s
def yk (X:Cx) (st:List Stmt) (t:TS):Prop:=
 ∀(pins:AL) (s:Shared) (σ:St) (H:Hp) (D:Ends),Inv X pins σ H s->t D σ H->wpAny (model X.prog X.w) X.A (execs st X.env) (SP X pins D) X.xe s
def zn {α:Type} {t:Sem α} {Q Q':α->Shared->Prop} {M:Model} {A:Around} {E:VP} {s:Shared} (h:wpAny M A t Q E s) (hQ:∀a s,Q a s->Q' a s):wpAny M A t Q' E s:=A7 h hQ fun _ _ x=>x
section
variable {X:Cx}
def yn (i:Nat):TE:=fun σ H Q=> ∃v,σ[i]? =some (some v)/\Q v H
def tC (v:V):TE:=fun _ H Q=>Q v H
def yS {i:Nat} {x:Str} {pos:Pos} (hN:X.N[i]? =some x) (hv:Vis X.env.scope x) (hd:(x==("__debug__" :Str))=false:=by decide) (hcd:(x==("__classdict__" :Str))=false:=by decide):PE X (.Name x pos) (yn i):=by
 intro pins s σ H Q I h;obtain⟨v,e,h⟩:=h;obtain⟨m,hn,hl⟩:=I.loc;obtain⟨u,r,l⟩:=hl i x v hN e hv;have fin:EP X pins σ Q u s:=⟨v,H,I,r,h⟩
 rcases l with ⟨hk,hm⟩|⟨hk,c,hc,hcell⟩
 .exact wpAny_Name (wpAny_loadName_local I.ok.kind hk hn hm fin) hd
 .rcases hk with hk|hk
  .exact wpAny_Name (wpAny_loadName_cell I.ok.kind hk hc hcell fin) hd
  .exact wpAny_Name (wpAny_loadName_free I.ok.kind hk hc hcell fin hcd) hd
def Jv {i j pos}:PE X (.Constant (.int i) j pos) (tC (.int i)):=fun _ _ _ H _ I h=>wpAny_Constant_int ⟨.int i,H,I.tok _,⟨_,rfl⟩,h⟩
def MN {b j pos}:PE X (.Constant (.bool b) j pos) (tC (.bl b)):=fun _ _ _ H _ I h=>Constant_bool ⟨.bl b,H,I,rfl,h⟩
def MO {j pos}:PE X (.Constant .none j pos) (tC .non):=fun _ _ _ H _ I h=>Constant_none ⟨.non,H,I,rfl,h⟩
def CJ {x j pos}:PE X (.Constant (.str x) j pos) (tC (.str x)):=fun _ _ _ H _ I h=>Calls.Constant_str ⟨.str x,H,I.tok _,⟨_,rfl⟩,h⟩
def Gl (X:Cx) (x:Str):Prop:=X.env.kindOf x=some .globalImplicit
def AG {E:VP} {pins:AL} {s:Shared} {σ:St} {H:Hp} {x:Str} {u:Value} {pos:Pos} {Q:VP} (I:Inv X pins σ H s) (hg:Gl X x) (hm:X.mg x=some u) (h:Q u s)
  (hd:(x==("__debug__" :Str))=false:=by decide):wpAny (model X.prog X.w) X.A (eval (.Name x pos) X.env) Q E s:=
 Calls.Name_function_global I.ok.kind hg (Calls.loadGlobal_global (by rw[I.ok.glob];exact I.mod.glob.keeps I.bk) hm h) hd
def DL {E:VP} {pins:AL} {s:Shared} {σ:St} {H:Hp} {x:Str} {u:Value} {pos:Pos} {Q:VP} (I:Inv X pins σ H s) (hg:Gl X x) (hm:X.mg x=none) (hv:bootBuiltins x=some u) (h:Q u s)
  (hn:x≠"__name__" :=by decide) (hd:(x==("__debug__" :Str))=false:=by decide):wpAny (model X.prog X.w) X.A (eval (.Name x pos) X.env) Q E s:=by
 obtain⟨mb,h1,h2⟩:=I.mod.blt;exact Calls.Name_function_global I.ok.kind hg (Calls.loadGlobal_builtin (by rw[I.ok.glob];exact I.mod.glob.keeps I.bk) hm (by rw[I.ok.blt];exact h1.keeps I.bk) ((h2 x hn).trans hv) h) hd
def yN {x:Str} {v:V} {u:Value} {pos:Pos} (hg:Gl X x) (hm:X.mg x=some u) (r:RelV v u) (hd:(x==("__debug__" :Str))=false:=by decide):PE X (.Name x pos) (tC v):=
 fun _ _ _ H _ I h=>AG I hg hm ⟨v,H,I,r,h⟩ hd
def BJ {x:Str} {v:V} {u:Value} {pos:Pos} (hg:Gl X x) (hm:X.mg x=none) (hv:bootBuiltins x=some u) (r:RelV v u) (hn:x≠"__name__" :=by decide) (hd:(x==("__debug__" :Str))=false:=by decide):PE X (.Name x pos) (tC v):=
 fun _ _ _ H _ I h=>DL I hg hm hv ⟨v,H,I,r,h⟩ hn hd
variable {a b:Expr} {ta tb:TE} {pos:Pos}
def tB (t:TE):TT:=fun σ H Q=>t σ H fun x H1=> ∃c,x=.bl c/\Q c H1
def MP {e:Expr} {t:TE} (h:PE X e t) (he:∀whole,isTrue e X.env whole=(do let v <-whole;standAt e.pos;holding [v] (truthy v)):=by intro _;rfl):PT X e (tB t):=by
 intro pins s σ H Q I hw
 refine isTrue_plain (zn (h pins s σ H _ I hw) fun v s1 ⟨x,H1,I1,r1,q1⟩=>?_) (he _)
 obtain⟨d,rfl,q⟩:=q1;cases r1;exact Da ⟨H1,I1,q⟩
variable {tA tB':TT} {rest:List Expr}
def tAnd (t u:TT):TT:=fun σ H Q=>t σ H fun c H1=>if c=true then u σ H1 Q else Q false H1
def tOr (t u:TT):TT:=fun σ H Q=>t σ H fun c H1=>if c=true then Q true H1 else u σ H1 Q
def tNot (t:TT):TT:=fun σ H Q=>t σ H fun c H1=>Q (!c) H1
theorem MQ (ha:PT X a tA):PW X (.BoolOp .And [a] pos) tA:=by
 intro wh pins s σ H Q I h
 refine isTrue_and (zn (ha pins s σ H Q I h) fun c s1 e=>?_)
 cases c with
 |true=>exact isTrue_and_nil e
 |false=>exact e
theorem MR (ha:PT X a tA):PW X (.BoolOp .Or [a] pos) tA:=by
 intro wh pins s σ H Q I h
 refine isTrue_or (zn (ha pins s σ H Q I h) fun c s1 e=>?_)
 cases c with
 |false=>exact isTrue_or_nil e
 |true=>exact e
theorem MS (ha:PT X a tA) (hb:PW X (.BoolOp .And (b::rest) pos) tB'):PW X (.BoolOp .And (a::b::rest) pos) (tAnd tA tB'):=by
 intro wh pins s σ H Q I h
 refine isTrue_and (zn (ha pins s σ H _ I h) fun c s1 ⟨H1,I1,q1⟩=>?_)
 cases c with
 |true=>exact hb wh pins s1 σ H1 Q I1 q1
 |false=>exact⟨H1,I1,q1⟩
theorem MT (ha:PT X a tA) (hb:PW X (.BoolOp .Or (b::rest) pos) tB'):PW X (.BoolOp .Or (a::b::rest) pos) (tOr tA tB'):=by
 intro wh pins s σ H Q I h
 refine isTrue_or (zn (ha pins s σ H _ I h) fun c s1 ⟨H1,I1,q1⟩=>?_)
 cases c with
 |true=>exact⟨H1,I1,q1⟩
 |false=>exact hb wh pins s1 σ H1 Q I1 q1
theorem MU (ha:PT X a tA):PT X (.UnaryOp .Not a pos) (tNot tA):=by
 intro pins s σ H Q I h;exact isTrue_not (ha pins s σ H (fun c H1=>Q (!c) H1) I h)
def MV (ta tb:TE):TE:=fun σ H Q=>ta σ H fun x H1=> ∃c,x=.bl c/\if c=true then tb σ H1 Q else Q (.bl false) H1
def MW (ta:TE):TE:=fun σ H Q=>ta σ H fun x H1=> ∃c,x=.bl c/\Q (.bl (!c)) H1
def MX {op} {t:TE} (h:PE X a t):PE X (.BoolOp op [a] pos) t:=fun pins s σ H Q I hw=>BoolOp_one (h pins s σ H Q I hw)
def MY (ha:PE X a ta) (hb:PE X (.BoolOp .And (b::rest) pos) tb):PE X (.BoolOp .And (a::b::rest) pos) (MV ta tb):=by
 intro pins s σ H Q I h
 refine BoolOp_and (zn (ha pins s σ H _ I h) fun v s1 ⟨x,H1,I1,r1,q1⟩=>?_)
 obtain⟨c,rfl,q1⟩:=q1;cases r1
 refine Da ?_
 cases c with
 |true=>exact hb pins s1 σ H1 Q I1 q1
 |false=>exact⟨.bl false,H1,I1,rfl,q1⟩
def MZ (ha:PE X a ta):PE X (.UnaryOp .Not a pos) (MW ta):=by
 intro pins s σ H Q I h
 refine UnaryOp_ (zn (ha pins s σ H _ I h) fun v s1 ⟨x,H1,I1,r1,q1⟩=>?_)
 obtain⟨c,rfl,q1⟩:=q1;cases r1;exact not_of (Da ⟨.bl (!c),H1,I1,rfl,q1⟩)
end
def SqL (K:FG) (H:Hp) (a:Addr) (xs:List V):Prop:=
 Rd H a (.lst xs)\/
  ∃(o:Obj) (its:Array Value) (n:Nat),K.lookup a=some o/\o.cls=.type "list" /\o.dict=none/\o.data=.seq its n/\its.size<=sizeLine/\Vals xs its.toList
def SqT (K:FG) (H:Hp) (a:Addr) (xs:List V):Prop:=
 Rd H a (.tup xs)\/
  ∃(o:Obj) (its:Array Value) (n:Nat),K.lookup a=some o/\o.cls=.type "tuple" /\o.data=.seq its n/\its.size<=sizeLine/\Vals xs its.toList
noncomputable def absV:Value->Option V
 |.none=>some .non
 |.bool b=>some (.bl b)
 |.int i _=>some (.int i)
 |.str x _=>some (.str x)
 |.bytes b _=>some (.byt b)
 |.float b _=>some (.flt b)
 |.ref a=>some (.ref a)
 |.type n=>some (.ty n)
 |_=>none
def RelV.abs {x:V} {u:Value} (r:RelV x u):absV u=some x:=by
 cases x with
 |non=>cases r;rfl
 |bl _=>cases r;rfl
 |int _=>obtain⟨t,rfl⟩:=r;rfl
 |str _=>obtain⟨t,rfl⟩:=r;rfl
 |byt _=>obtain⟨t,rfl⟩:=r;rfl
 |flt _=>obtain⟨t,rfl⟩:=r;rfl
 |ref _=>cases r;rfl
 |ty _=>cases r;rfl
theorem RelV.inj {x y:V} {u:Value} (r:RelV x u) (q:RelV y u):x=y:=Option.some.inj (r.abs.symm.trans q.abs)
theorem Vals.inj:∀{xs ys:List V} {us:List Value},Vals xs us->Vals ys us->xs=ys
 |_,_,_,.nil,.nil=>rfl
 |_,_,_,.cons r t,.cons r' t'=>by rw[r.inj r',Vals.inj t t']
section
variable {X:Cx} {pins:AL} {σ:St} {H:Hp} {s:Shared} {a:Addr} {xs ys:List V}
def SqL.of {K:FG} (h:H a=some (.lst xs)):SqL K H a xs:= .inl (.inl h)
def SqT.of {K:FG} (h:H a=some (.tup xs)):SqT K H a xs:= .inl (.inl h)
def Inv.list (I:Inv X pins σ H s) (h:SqL X.K H a xs):∃its:List Value,Vals xs its/\PlainL s.heap a its.toArray/\xs.length<=sizeLine:=by
 rcases h with h|⟨o,its,n,hk,hc,hd,hs,hz,r⟩
 .obtain⟨z,its,n,r,e⟩:=h.ok I.hok
  exact⟨its,r,⟨_,n,e,rfl,rfl,rfl⟩,z⟩
 .refine⟨its.toList,r,⟨o,n,I.kIn a o hk,hc,hd,by simpa using hs⟩,?_⟩
  have e:=r.length;simp only[Ar]at e;lia
def Inv.tuple (I:Inv X pins σ H s) (h:SqT X.K H a xs):∃its:List Value,Vals xs its/\IsTup s.heap a its.toArray/\xs.length<=sizeLine:=by
 rcases h with h|⟨o,its,n,hk,hc,hs,hz,r⟩
 .obtain⟨z,its,r,p⟩:=h.ok I.hok
  exact⟨its,r,p,z⟩
 .refine⟨its.toList,r,⟨o,I.kIn a o hk,hc,n,by simpa using hs⟩,?_⟩
  have e:=r.length;simp only[Ar]at e;lia
def Inv.list_inj (I:Inv X pins σ H s) (h:SqL X.K H a xs) (h':SqL X.K H a ys):xs=ys:=by
 obtain⟨its,r,⟨o,n,e,_,_,d⟩,_⟩:=I.list h;obtain⟨its',r',⟨o',n',e',_,_,d'⟩,_⟩:=I.list h';rw[e]at e';cases e';rw[d]at d';injection d' with d1 _
 have:its=its':=by simpa using congrArg Array.toList d1
 subst this;exact r.inj r'
def Inv.tuple_inj (I:Inv X pins σ H s) (h:SqT X.K H a xs) (h':SqT X.K H a ys):xs=ys:=by
 obtain⟨its,r,⟨o,e,_,n,d⟩,_⟩:=I.tuple h;obtain⟨its',r',⟨o',e',_,n',d'⟩,_⟩:=I.tuple h';rw[e]at e';cases e';rw[d]at d';injection d' with d1 _
 have:its=its':=by simpa using congrArg Array.toList d1
 subst this;exact r.inj r'
end
noncomputable abbrev Cx.wish (X:Cx) (E:VP):Cx:={X with xe:=E}
theorem Cx.Ok.wish {X:Cx} (ok:X.Ok) (E:VP):(X.wish E).Ok:=
 ⟨ok.mod,ok.kind,ok.glob,ok.blt,ok.above,ok.inj,ok.has,ok.cab,ok.hd,ok.frames,ok.stk,ok.exf,ok.bs,ok.bsz,ok.noex,ok.exfs,ok.funs,ok.frf⟩
def Cx.Ok.unwish {X:Cx} {E:VP} (ok:(X.wish E).Ok):X.Ok:=
 ⟨ok.mod,ok.kind,ok.glob,ok.blt,ok.above,ok.inj,ok.has,ok.cab,ok.hd,ok.frames,ok.stk,ok.exf,ok.bs,ok.bsz,ok.noex,ok.exfs,ok.funs,ok.frf⟩
section
variable {X:Cx} {pins:AL} {σ:St} {H:Hp} {s:Shared} {E:VP}
theorem Inv.wish (I:Inv X pins σ H s) (E:VP):Inv (X.wish E) pins σ H s:=⟨I.ok.wish E,I.os,I.bare,I.base,I.loc,I.cell,I.free,I.freeC,I.pin,I.hok,I.len⟩
theorem Inv.unwish (I:Inv (X.wish E) pins σ H s):Inv X pins σ H s:=⟨I.ok.unwish,I.os,I.bare,I.base,I.loc,I.cell,I.free,I.freeC,I.pin,I.hok,I.len⟩
end
section
variable {X:Cx} {st:Stmt} {rest:List Stmt} {t u:TS} {e:Expr} {te:TE} {pos:Pos}
def Na:TS:=fun D σ H=>D.nx σ H
def tSeq (t u:TS):TS:=fun D σ H=>t {D with nx:=u D} σ H
def Nb:yk X [] Na:=fun _ _ σ H _ I h=>wpAny_execs_nil ⟨σ,H,I,h⟩
def DM (h1:PS X st t) (h2:yk X rest u):yk X (st::rest) (tSeq t u):=by
 intro pins s σ H D I h
 refine wpAny_execs_cons (zn (h1 pins s σ H {D with nx:=u D} I h) fun f s1 q=>?_)
 cases f with
 |next=>
  obtain⟨σ',H',I',q⟩:=q;exact h2 pins s1 σ' H' D I' q
 |ret v=>exact q
 |brk=>exact q
 |cont=>exact q
def CK (h1:PS X st t):yk X [st] t:=by
 intro pins s σ H D I h
 refine wpAny_execs_cons (zn (h1 pins s σ H D I h) fun f s1 q=>?_)
 cases f with
 |next=>exact wpAny_execs_nil q
 |ret v=>exact q
 |brk=>exact q
 |cont=>exact q
def Inv.quiet {pins:AL} {σ:St} {H:Hp} {s:Shared} (I:Inv X pins σ H s):interactive X.env=false:=by simp[interactive,I.ok.kind]
def Hy (te:TE):TS:=fun D σ H=>te σ H fun _ H1=>D.nx σ H1
def AS (he:PE X e te) (hs:swapsWith e none pos.line X.env=pure false:=by rfl):PS X (.Expr e pos) (Hy te):=by
 intro pins s σ H D I h;exact wpAny_Expr_any (zn (he pins s σ H _ I h) fun v s1 ⟨x,H1,I1,r1,q1⟩=>⟨σ,H1,I1,q1⟩) I.quiet hs
def tRet (te:TE):TS:=fun D σ H=>te σ H D.rt
def Jw (he:PE X e te):PS X (.Return (some e) pos) (tRet te):=by
 intro pins s σ H D I h;exact wpAny_Return_some (zn (he pins s σ H _ I h) fun v s1 ⟨x,H1,I1,r1,q1⟩=>⟨x,σ,H1,I1,r1,q1⟩)
def tIfS (c:TT) (t u:TS):TS:=fun D σ H=>c σ H fun b H1=>if b=true then t D σ H1 else u D σ H1
def Nc {c:Expr} {a b:List Stmt} {tc:TT} (hc:PT X c tc) (ha:yk X a t) (hb:yk X b u):PS X (.If c a b pos) (tIfS tc t u):=by
 intro pins s σ H D I h
 refine wpAny_If (zn (hc pins s σ H _ I h) fun d s1 ⟨H1,I1,q1⟩=>?_)
 cases d with
 |true=>exact ha pins s1 σ H1 D I1 q1
 |false=>exact hb pins s1 σ H1 D I1 q1
end
abbrev TG:=V->St->Hp->(St->Hp->Prop)->Prop
abbrev qz:=List V->St->Hp->(St->Hp->Prop)->Prop
def PG (X:Cx) (target:Expr) (t:TG):Prop:=
 ∀(pins:AL) (s:Shared) (σ:St) (H:Hp) (v:V) (u:Value) (Q:St->Hp->Prop),Inv X pins σ H s->RelV v u->t v σ H Q->
  wpAny (model X.prog X.w) X.A (assign target X.env u) (fun _ s'=> ∃σ' H',Inv X pins σ' H' s'/\Q σ' H') X.xe s
def qA (X:Cx) (ts:List Expr) (t:qz):Prop:=
 ∀(pins:AL) (s:Shared) (σ:St) (H:Hp) (vs:List V) (us:List Value) (Q:St->Hp->Prop),Inv X pins σ H s->Vals vs us->t vs σ H Q->
  wpAny (model X.prog X.w) X.A (assignInOrder ((assignEach ts X.env).map (·.2)) us) (fun _ s'=> ∃σ' H',Inv X pins σ' H' s'/\Q σ' H') X.xe s
abbrev TSet:=V->V->V->Hp->(Hp->Prop)->Prop
def PSet (X:Cx) (t:TSet):Prop:=
 ∀(pins:AL) (s:Shared) (σ:St) (H:Hp) (o i v:V) (ov iv u:Value) (Q:Hp->Prop),Inv X pins σ H s->RelV o ov->RelV i iv->RelV v u->t o i v H Q->
  wpAny (model X.prog X.w) X.A (setItem ov iv u) (fun _ s'=> ∃H',Inv X pins σ H' s'/\Q H') X.xe s
section
variable {X:Cx} {pos:Pos}
def DN (i:Nat):TG:=fun v σ H Q=>Q (σ.set i (some v)) H
def qj {i:Nat} {x:Str} (hN:X.N.Nodup) (hi:X.N[i]? =some x) (hx:Loc X.env.scope x) (hf:X.fn x=true\/X.env.scope.names.lookup x=some .local:=by first|exact .inl rfl|exact .inr rfl|assumption):PG X (.Name x pos) (DN i):=by
 intro pins s σ H v u Q I r h;exact wpAny_assign_Name (Gh I hN hi hx r (fun s' I'=>⟨_,H,I',h⟩) hf)
def gNil:qz:=fun vs σ H Q=>vs=[]/\Q σ H
def Jx (t:TG) (u:qz):qz:=fun vs σ H Q=> ∃v r,vs=v::r/\t v σ H fun σ' H'=>u r σ' H' Q
def Nd:qA X [] gNil:=by
 intro pins s σ H vs us Q I r h;obtain⟨e,h⟩:=h;subst e;cases r;exact assignInOrder_nil ⟨σ,H,I,h⟩
def qQ {e:Expr} {es:List Expr} {t:TG} {u:qz} (h1:PG X e t) (h2:qA X es u)
  (hs:(assignEach (e::es) X.env).map (·.2)=assign e X.env::(assignEach es X.env).map (·.2):=by rfl):qA X (e::es) (Jx t u):=by
 intro pins s σ H vs us Q I r h;obtain⟨v,vr,e1,h⟩:=h;subst e1;cases r with
 |cons r rr=>
  rw[hs]
  refine assignInOrder_cons (zn (h1 pins s σ H _ _ _ I r h) fun _ s1 ⟨σ1,H1,I1,q1⟩=>?_)
  exact h2 pins s1 σ1 H1 _ _ Q I1 rr q1
def gTup (K:FG) (n:Nat) (t:qz):TG:=fun v σ H Q=> ∃a xs,v=.ref a/\SqT K H a xs/\xs.length=n/\t xs σ H Q
def Gi {es:List Expr} {k:Nat} {t:qz} {n:Nat} (hc:X.calm=true) (h:qA X es t)
  (hn:(assignEach es X.env).length=n:=by rfl) (hst:(assignEach es X.env).findIdx? (·.1)=none:=by rfl):PG X (.Tuple es k pos) (gTup X.K n t):=by
 intro pins s σ H v u Q I r hw;obtain⟨a,xs,e1,hq,hl,hw⟩:=hw;subst e1;cases r;obtain⟨its,rv,ht,hz⟩:=I.tuple hq
 refine assign_Tuple_tuple (I.ok.hd hc) ht (by simp[hn,<-hl,rv.length]) hst fun h' hx=>?_
 have I1:Inv X pins σ H {s with heap:=h'}:=I.kept (t':=s.toks) fun b o e=>hx b o (Au (Aj e)) e
 exact h pins _ σ H xs _ Q I1 (by simpa using rv) hw
def gSub (to ti:TE) (t:TSet):TG:=fun v σ H Q=>to σ H fun o H1=>ti σ H1 fun i H2=>t o i v H2 fun H3=>Q σ H3
def Jy {o i:Expr} {to ti:TE} {t:TSet} (ho:PE X o to) (hi:PE X i ti) (hs:PSet X t)
  (ha:∀v,assign (.Subscript o i pos) X.env v=(do
   let ov <-holding [v] (eval o X.env)
   let iv <-holding [v,ov] (eval i X.env)
   standAt pos
   holding [v,ov,iv] (setItem ov iv v)
   release [v,ov,iv] []):=by intro _;rfl):PG X (.Subscript o i pos) (gSub to ti t):=by
 intro pins s σ H v u Q I r h;rw[ha]
 refine Ae (Cy (zn (ho pins s σ H _ I h) fun ov s1 ⟨x,H1,I1,r1,q1⟩=>?_))
 refine Ae (Cy (zn (hi pins s1 σ H1 _ I1 q1) fun iv s2 ⟨y,H2,I2,r2,q2⟩=>?_))
 refine Ae (wpAny_standAt (Ae (Cy (zn (hs pins s2 σ H2 x y v ov iv u _ I2 r1 r2 r q2) fun _ s3 ⟨H3,I3,q3⟩=>?_))))
 exact wpAny_release ⟨σ,H3,I3,q3⟩
def tAsg (te:TE) (g:TG):TS:=fun D σ H=>te σ H fun x H1=>g x σ H1 D.nx
def Hz {tg e:Expr} {te:TE} {g:TG} (he:PE X e te) (hg:PG X tg g) (hs:swapsWithSole [tg] e pos.line X.env=pure false:=by rfl) (hw:swappedStores [tg] e X.env=pure none:=by rfl)
  (h1:(assignEach [tg] X.env).map (·.2)=[assign tg X.env]:=by rfl):PS X (.Assign [tg] e pos) (tAsg te g):=by
 intro pins s σ H D I h
 refine wpAny_Assign_stores (zn (he pins s σ H _ I h) fun v s1 ⟨x,H1,I1,r1,q1⟩=>?_) hs hw
 rw[h1];exact zn (hg pins s1 σ H1 x v _ I1 r1 q1) fun _ s2 q=>q
def Nf {i:Nat} {x:Str} {e:Expr} {te:TE} {pos':Pos} (hN:X.N.Nodup) (hi:X.N[i]? =some x) (hx:Loc X.env.scope x) (he:PE X e te) (hs:swapsWith e (some (.Name x pos')) pos.line X.env=pure false:=by rfl) (hf:X.fn x=true\/X.env.scope.names.lookup x=some .local:=by first|exact .inl rfl|exact .inr rfl|assumption):
  PS X (.Assign [.Name x pos'] e pos) (tAsg te (DN i)):=by
 intro pins s σ H D I h
 refine wpAny_Assign_Name (zn (he pins s σ H _ I h) fun v s1 ⟨y,H1,I1,r1,q1⟩=>?_) hs
 exact Gh I1 hN hi hx r1 (fun s2 I2=>⟨_,H1,I2,q1⟩) hf
end
structure It where
 go:Nat->Hp->Prop
 yld:Nat->Hp->V->Hp->Prop
 stop:Nat->Hp->Prop
def yB (X:Cx) (pins:AL) (H:Hp) (b:Addr):Prop:=
 H b=none/\b≠X.env.locals/\b∉X.fs/\(b∈X.ex\/X.s₀.heap.objs.size<=b)/\(∀x c,X.env.cells.lookup x=some c->c≠b)/\∀p∈X.pn++pins,p.1≠b
def Inv.fpOk {X:Cx} {pins:AL} {σ:St} {H H':Hp} {s:Shared} {b:Addr} (I:Inv X pins σ H s) (hb:s.heap.objs.size<=b) (hn:H' b=none):yB X pins H' b:=by
 refine⟨hn,Cz (Az I.lt hb),I.nofs hb,.inr (Nat.le_trans I.sz hb),fun x c e z=>?_,fun p hp z=>?_⟩
 .obtain⟨v,q⟩:=I.cell x c e
  exact absurd (Az q.lt (by rw[z];exact hb)) (B6 _)
 .exact absurd (Az (Aj (I.pin p hp).1) (by rw[z];exact hb)) (B6 _)
structure Turn (P:Program) (w:World) (K:FG) (tg:Expr) (J:It) (fp:List Addr) (it:Addr) (tn:Nat->Heap->Prop):Prop where
 mem:it∈fp
 obj:∀i h,tn i h->∀b∈fp,∃o,h.get? b=some o/\∀v,o.data≠ .cell v
 keep:∀i h h',tn i h->(∀b∈fp,∀o,h.get? b=some o->h'.get? b=some o)->tn i h'
 item:∀(X:Cx),X.prog=P->X.w=w->X.K=K->X.calm=true->∀(i:Nat) (pins:AL) (s:Shared) (σ:St) (H:Hp) (E:VP),Inv X pins σ H s->(∀b∈fp,yB X pins H b)->tn i s.heap->J.go i H->
  wpAny (model P w) X.A (pyNext (.ref it)) (fun r s1=> ∃u,r=some u/\
   wpAny (model P w) X.A (letOwnedTupleGo tg (.ref it) u) (fun _ s2=> ∃x H',Inv X pins σ H' s2/\RelV x u/\J.yld i H x H'/\tn (i+1) s2.heap/\∀b∈fp,H' b=none) E s1) E s
 done:∀(X:Cx),X.prog=P->X.w=w->X.K=K->X.calm=true->∀(i:Nat) (pins:AL) (s:Shared) (σ:St) (H:Hp) (E:VP),Inv X pins σ H s->(∀b∈fp,yB X pins H b)->tn i s.heap->J.stop i H->
  wpAny (model P w) X.A (pyNext (.ref it)) (fun r s1=>r=none/\Inv X pins σ H s1) E s
 self:∀(A:Around) (i:Nat) (s:Shared) (Q:VP) (E:VP),tn i s.heap->Q (.ref it) s->wpAny (model P w) A (pyIter (.ref it)) Q E s
abbrev TI:=St->Hp->(It->Hp->Prop)->Prop
def PIE (X:Cx) (pins:AL) (σ:St) (tg:Expr) (R:It->Hp->Prop) (itv:Value) (s2:Shared):Prop:=
 ∃(it:Addr) (fp:List Addr) (tn:Nat->Heap->Prop) (J:It) (H':Hp),itv=.ref it/\Inv X pins σ H' s2/\Turn X.prog X.w X.K tg J fp it tn/\tn 0 s2.heap/\(∀b∈fp,yB X pins H' b)/\R J H'
def PI (X:Cx) (tg iter:Expr) (wi:TI):Prop:=
 ∀(pins:AL) (s:Shared) (σ:St) (H:Hp) (R:It->Hp->Prop),Inv X pins σ H s->wi σ H R->
  wpAny (model X.prog X.w) X.A (eval iter X.env) (fun v s1=>wpAny (model X.prog X.w) X.A (pyIter v) (PIE X pins σ tg R) X.xe s1) X.xe s
def Jz {M:Model} {A:Around} {E:VP} {s:Shared} {tg:Expr} {it:Addr} {u:Value} {o:Obj} {n:String} {vs:Array Value} {Q:Unit->Shared->Prop} (ho:s.heap.get? it=some o) (hc:o.cls=.type n) (hd:o.data=.fields vs)
    (hn:["enumerate","zip","dict_itemiterator","dict_reverseitemiterator","odict_iterator","itertools.zip_longest","itertools.pairwise"].contains n=false) (hQ:Q () s):wpAny M A (letOwnedTupleGo tg (.ref it) u) Q E s:=by
  unfold letOwnedTupleGo;cases tg<;>first
    |exact Ai hQ
    | (cases u<;>first
        |exact Ai hQ
        | (refine Ae (wpAny_load ho ?_)
           rw[hc,hd];show wpAny M A (if (["enumerate","zip","dict_itemiterator","dict_reverseitemiterator","odict_iterator","itertools.zip_longest","itertools.pairwise"].contains n && vs[0]? ==some (rawInt _))=true then _ else _) Q E s
           rw[Ab (by intro h;rw[hn,A9]at h;cases h)]
           exact Ai hQ))
def Itl (K:FG) (a:Addr):It:=
 ⟨fun i H=> ∃xs x,SqL K H a xs/\xs[i]? =some x,fun i H x H'=>H'=H/\∀xs,SqL K H a xs->xs[i]? =some x,fun i H=> ∃xs,SqL K H a xs/\xs.length<=i⟩
def Itr (lo:Int) (n:Nat):It:=⟨fun i _=>i<n,fun i H x H'=>H'=H/\x=.int (lo+i),fun i _=>n<=i⟩
def Ng {P:Program} {w:World} {K:FG} {tg:Expr} (a it:Addr):Turn P w K tg (Itl K a) [it] it (fun i h=>h.IsListIter it a i) where
 mem:=by simp
 obj:=fun i h st b hb=>by
  have e:b=it:=by simpa using hb
  subst e;obtain⟨o,e,c,d⟩:=st;exact⟨o,e,fun v z=>by rw[d]at z;cases z⟩
 keep:=fun i h h' st k=>st.at fun o e=>k it (by simp) o e
 item:=by
  intro X hP hw hK hc i pins s σ H E I hf st hg;subst hP hw hK;obtain⟨xs,x,hq,hx⟩:=hg;obtain⟨its,rv,p,hz⟩:=I.list hq;obtain⟨u,hu,ru⟩:=rv.get hx;obtain⟨f0,f1,f2,f3,f4,f5⟩:=hf it (by simp)
  refine wpAny_pyNext_list_item st p.isList (x:=u) (by simpa using hu) fun h' st' sb=>?_
  have I1:Inv X pins σ H {s with heap:=h'}:=I.turned (t':=s.toks) (fun b o hb e=>(sb.2 b hb).trans e) f0 f1 f3 f4 f5
  obtain⟨o,e,c,d⟩:=id st';exact⟨u,rfl,Jz (s:={s with heap:=h'}) e c d (by decide) ⟨x,H,I1,ru,⟨rfl,fun ys hy=>by rw[I.list_inj hy hq];exact hx⟩,st',fun b hb=>(hf b hb).1⟩⟩
 done:=by
  intro X hP hw hK hc i pins s σ H E I hf st hg;subst hP hw hK;obtain⟨xs,hq,hx⟩:=hg;obtain⟨its,rv,p,hz⟩:=I.list hq;obtain⟨f0,f1,f2,f3,f4,f5⟩:=hf it (by simp)
  have hl:=rv.length;exact wpAny_pyNext_list_end (I.ok.hd hc) st p.isList (by simp;lia) fun h' eb=>⟨rfl,I.turned (t':=s.toks) (fun b o hb e=>eb b o hb e) f0 f1 f3 f4 f5⟩
 self:=fun _ _ _ _ _ st h=>wpAny_pyIter_listiter st h
def Nh {P:Program} {w:World} {K:FG} {tg:Expr} (it:Addr) (lo:Int) (n:Nat):Turn P w K tg (Itr lo n) [it] it (fun i h=>IsRangeIter h it (lo+(i:Nat)*1) ((n:Int)-(i:Nat)) 1) where
 mem:=by simp
 obj:=fun i h st b hb=>by
  have e:b=it:=by simpa using hb
  subst e;exact⟨_,st,fun v z=>by
   have z':Data.fields _=Data.cell v:=z;cases z'⟩
 keep:=fun i h h' st k=>k it (by simp) _ st
 item:=by
  intro X hP hw hK hc i pins s σ H E I hf st hg;subst hP hw hK;obtain⟨f0,f1,f2,f3,f4,f5⟩:=hf it (by simp)
  have W:=Walks.range (prog:=X.prog) (w:=X.w) (I.ok.hd hc) it lo 1 n
  refine W.item i s _ _ hg st fun v h' tk hv st' kk=>?_
  obtain⟨t,rfl⟩:=hv;have I1:Inv X pins σ H {s with heap:=h',toks:=tk}:=I.turned (fun b o hb e=>kk b o (by simpa using hb) e) f0 f1 f3 f4 f5
  refine⟨_,rfl,Jz (s:={s with heap:=h',toks:=tk}) (n:="range_iterator") st' rfl rfl (by decide) ⟨.int (lo+i),H,I1,⟨t,?_⟩,⟨rfl,rfl⟩,st',fun b hb=>(hf b hb).1⟩⟩
  rw[Int.mul_one]
 done:=by
  intro X hP hw hK hc i pins s σ H E I hf st hg;subst hP hw hK;obtain⟨f0,f1,f2,f3,f4,f5⟩:=hf it (by simp)
  exact wpAny_pyNext_range_end (I.ok.hd hc) st (by have:n<=i:=hg;lia) fun h' eb=>⟨rfl,I.turned (t':=s.toks) (fun b o hb e=>eb b o hb e) f0 f1 f3 f4 f5⟩
 self:=fun _ _ _ _ _ st h=>wpAny_pyIter_rangeiter st h
section
variable {X:Cx} {tg:Expr}
def Ni (K:FG) (tl:TE):TI:=fun σ H R=>tl σ H fun x H1=> ∃a,x=.ref a/\(∃xs,SqL K H1 a xs)/\R (Itl K a) H1
def Nj {l:Expr} {tl:TE} (hl:PE X l tl):PI X tg l (Ni X.K tl):=by
 intro pins s σ H R I h
 refine zn (hl pins s σ H _ I h) fun v s1 ⟨x,H1,I1,r1,q1⟩=>?_
 obtain⟨a,e,⟨xs,hq⟩,q⟩:=q1;subst e;cases r1;obtain⟨its,rv,p,hz⟩:=I1.list hq
 refine wpAny_pyIter_list p.isList ?_
 refine⟨s1.heap.objs.size,[s1.heap.objs.size],_,_,H1,rfl,I1.kept (t':=s1.toks) fun b o e=>Ao _ e,Ng a _,⟨_,Bn _ rfl,rfl,rfl⟩,fun b hb=>?_,q⟩
 have e:b=s1.heap.objs.size:=by simpa using hb
 subst e;exact I1.fpOk (Nat.le_refl _) (I1.hok.fresh (Nat.le_refl _))
def Nk {pins:AL} {σ:St} {H:Hp} {s:Shared} {R:It->Hp->Prop} {E:VP} {lo hi:Int} {t u v:Tok} {tk:Nat} (I:Inv X pins σ H s) (h1: -(2 ^ 62)<=lo) (h2:lo<2 ^ 62) (h3: -(2 ^ 62)<=hi) (h4:hi<2 ^ 62)
  (q:R (Itr lo (hi-lo).toNat) H):wpAny (model X.prog X.w) X.A (pyIter (.ref s.heap.objs.size)) (PIE X pins σ tg R) E {s with heap:=s.heap.push {cls:= .type "range",data:= .fields #[.int lo t,.int hi u,.int 1 v]},toks:=tk}:=by
 refine wpAny_pyIter_range (IsRange.new ..) (small_one h1 h2 h3 h4) ?_
 have I1:Inv X pins σ H {s with heap:=s.heap.push {cls:= .type "range",data:= .fields #[.int lo t,.int hi u,.int 1 v]},toks:=tk}:=I.kept fun b o e=>Ao _ e
 refine⟨(s.heap.push {cls:= .type "range",data:= .fields #[.int lo t,.int hi u,.int 1 v]}).objs.size,[(s.heap.push {cls:= .type "range",data:= .fields #[.int lo t,.int hi u,.int 1 v]}).objs.size],_,_,H,rfl,
  I1.kept (t':=tk) fun b o e=>Ao _ e,Nh _ lo (hi-lo).toNat,?_,fun b hb=>?_,q⟩
 .have e1:lo+((0:Nat):Int)*1=lo:=by simp
  have e2:(((hi-lo).toNat:Nat):Int)-((0:Nat):Int)=Builtin.Range.rangeSize lo hi 1:=by rw[rangeSize_one];split<;>lia
  show IsRangeIter _ _ (lo+((0:Nat):Int)*1) ((((hi-lo).toNat:Nat):Int)-((0:Nat):Int)) 1;rw[e1,e2];exact Bn _ rfl
 .have e:b=(s.heap.push {cls:= .type "range",data:= .fields #[.int lo t,.int hi u,.int 1 v]}).objs.size:=by simpa using hb
  subst e;exact I1.fpOk (Nat.le_refl _) (I1.hok.fresh (Nat.le_refl _))
def Nl (ta:TA):TI:=fun σ H R=>ta σ H fun vs H1=> ∃j:Int,vs=[.int j]/\ -(2 ^ 62)<=j/\j<2 ^ 62/\R (Itr 0 j.toNat) H1
def Nm {a:Expr} {ta:TA} {p pos:Pos} (hg:Gl X "range") (hm:X.mg "range" =none) (ha:PA X [a] ta) (hs:starEach [a] X.env=[(false,eval a X.env)]:=by rfl):PI X tg (.Call (.Name "range" p) [a] [] pos) (Nl ta):=by
 intro pins s σ H R I h
 refine Call_ (DL I hg hm boot_range (Fp (zn (ha pos pins s σ H _ I h) fun us s1 ⟨vs,H1,I1,r1,q1⟩=>?_) hs rfl))
 obtain⟨j,e,q1,q2,q⟩:=q1;subst e;cases r1 with
 |cons r rr=>
  cases rr;obtain⟨t,rfl⟩:=r;exact call_range_1 (Nk I1 (by lia) (by lia) q1 q2 (by simpa using q))
def tFor (wi:TI) (g:TG) (tb:TS):TS:=fun D σ H=>wi σ H fun J H1=> ∃W:Nat->Nat->St->Hp->Prop,(∃m,W 0 m σ H1)/\∀i m σ H,W i m σ H->
 (J.stop i H/\D.nx σ H)\/(J.go i H/\∃N:St->Hp->Prop,(∀σ' H',N σ' H'->∃m',m' < m/\W (i+1) m' σ' H')/\∀x H',J.yld i H x H'->g x σ H' fun σ2 H2=>tb {D with nx:=N,ct:=N,bk:=D.nx} σ2 H2)
noncomputable def DO (fp:List Addr) (h:Heap):AL:=fp.filterMap fun b=>(h.get? b).map fun o=>(b,o)
def Gj {fp:List Addr} {h:Heap} {b:Addr} {o:Obj} (hb:b∈fp) (e:h.get? b=some o):(b,o)∈DO fp h:=D5.mpr ⟨b,hb,by rw[e];rfl⟩
def Nn {fp:List Addr} {h:Heap} {p:Addr×Obj} (hp:p∈DO fp h):p.1∈fp/\h.get? p.1=some p.2:=by
 obtain⟨b,hb,e⟩:=D5.mp hp;cases q:h.get? b with
 |none=>rw[q]at e;cases e
 |some o=>
  rw[q]at e;have e':(b,o)=p:=Option.some.inj e;subst e';exact⟨hb,q⟩
def Inv.pinned {pins:AL} {σ:St} {H:Hp} {s:Shared} {fp:List Addr} (I:Inv X pins σ H s) (hf:∀b∈fp,yB X pins H b) (ho:∀b∈fp,∃o,s.heap.get? b=some o/\∀v,o.data≠ .cell v):Inv X (pins++DO fp s.heap) σ H s:=
 I.pins_of fun p hp=>(Bi.mp hp).elim (fun z=>I.pin p (Bj _ z)) fun z=>by
  obtain⟨hb,e⟩:=Nn z;obtain⟨f0,f1,f2,_⟩:=hf p.1 hb;obtain⟨o,e',d⟩:=ho p.1 hb;rw[e]at e';cases e';exact⟨e,f0,f1,f2,d⟩
def Inv.unpinned {pins pl:AL} {σ:St} {H:Hp} {s:Shared} (I:Inv X (pins++pl) σ H s):Inv X pins σ H s:=I.pins_of fun p hp=>I.pin p (Bj _ (B8 _ hp))
def Np {iter:Expr} {body:List Stmt} {wi:TI} {g:TG} {tb:TS} {pos:Pos} (hp:PassesOwn (model X.prog X.w) X.A X.env X.xe) (hc:X.calm=true) (hi:PI X tg iter wi) (hg:PG X tg g) (hb:yk X body tb)
  (hs:∀x,foldedSetIterable iter X.env x=pure x:=by intro _;rfl):PS X (.For tg iter body [] pos) (tFor wi g tb):=by
 intro pins s σ H D I h
 refine wpAny_For (zn (hi pins s σ H _ I h) fun v s1 h1=>zn h1 fun itv s2 h2=>?_) hs
 obtain⟨it,fp,tn,J,H2,e,I2,T,st2,f2,W,⟨m0,w0⟩,turn⟩:=h2;subst e;have stat:∀{H':Hp},(∀b∈fp,H' b=none)->∀b∈fp,yB X pins H' b:=fun hn b hb=>⟨hn b hb,(f2 b hb).2⟩
 refine codeAny_forLoop_any (fun n s'=> ∃i σ' H',Inv X pins σ' H' s'/\tn i s'.heap/\(∀b∈fp,H' b=none)/\W i n σ' H') ?_ m0 ⟨0,σ,H2,I2,st2,fun b hb=>(f2 b hb).1,w0⟩
 rintro n s3 ⟨i,σ3,H3,I3,st3,fr3,w3⟩
 rcases turn i n σ3 H3 w3 with ⟨stop,qn⟩|⟨go,N,hN,step⟩
 .refine D6 hp (zn (T.done X rfl rfl rfl hc i pins s3 σ3 H3 X.xe I3 (stat fr3) st3 stop) fun r s4 ⟨hr,I4⟩=>?_)
  subst hr;exact wpAny_execs_nil ⟨σ3,H3,I4,qn⟩
 .refine D6 hp (zn (T.item X rfl rfl rfl hc i pins s3 σ3 H3 X.xe I3 (stat fr3) st3 go) fun r s4 ⟨u,hr,h4⟩=>?_)
  subst hr
  refine D6 hp (zn h4 fun _ s5 ⟨x,H5,I5,r5,y5,st5,fr5⟩=>?_)
  have I5':=I5.pinned (stat fr5) (T.obj _ _ st5)
  refine D6 hp (zn (hg _ s5 σ3 H5 x u _ I5' r5 (step x H5 y5)) fun _ s6 ⟨σ6,H6,I6,q6⟩=>?_)
  refine D6 hp (zn (hb _ s6 σ6 H6 _ I6 q6) fun f s7 q7=>?_)
  have again:∀{σ7:St} {H7:Hp},Inv X (pins++DO fp s5.heap) σ7 H7 s7->N σ7 H7->∃m,m<n/\∃i σ' H',Inv X pins σ' H' s7/\tn i s7.heap/\(∀b∈fp,H' b=none)/\W i m σ' H':=fun {σ7 H7} I7 n7=>by
   obtain⟨m',hm,w7⟩:=hN σ7 H7 n7
   refine⟨m',hm,i+1,σ7,H7,I7.unpinned,T.keep _ _ _ st5 fun b hb o e=>(I7.pin (b,o) (Bj _ (Bj _ (Gj hb e)))).1,fun b hb=>?_,w7⟩
   obtain⟨o,e,d⟩:=T.obj _ _ st5 b hb;exact (I7.pin (b,o) (Bj _ (Bj _ (Gj hb e)))).2.1
  cases f with
  |next=>obtain⟨σ7,H7,I7,n7⟩:=q7;exact again I7 n7
  |cont=>obtain⟨σ7,H7,I7,n7⟩:=q7;exact again I7 n7
  |brk=>obtain⟨σ7,H7,I7,q7⟩:=q7;exact⟨σ7,H7,I7.unpinned,q7⟩
  |ret v=>obtain⟨x7,σ7,H7,I7,r7,q7⟩:=q7;exact⟨x7,σ7,H7,I7.unpinned,r7,q7⟩
end
abbrev R2:=V->V->Hp->VK->Prop
def OpR (X:Cx) (f:Value->Value->Sem Value) (r:R2):Prop:=
 ∀(pins:AL) (s:Shared) (σ:St) (H:Hp) (x y:V) (v u:Value) (Q:VK),Inv X pins σ H s->RelV x v->RelV y u->r x y H Q->
  wpAny (model X.prog X.w) X.A (f v u) (EP X pins σ Q) X.xe s
def UnR (X:Cx) (f:Value->Sem Value) (r:V->Hp->VK->Prop):Prop:=
 ∀(pins:AL) (s:Shared) (σ:St) (H:Hp) (x:V) (v:Value) (Q:VK),Inv X pins σ H s->RelV x v->r x H Q->
  wpAny (model X.prog X.w) X.A (f v) (EP X pins σ Q) X.xe s
def CallR (X:Cx) (f:Value) (r:List V->Hp->VK->Prop):Prop:=
 ∀(pins:AL) (s:Shared) (σ:St) (H:Hp) (xs:List V) (us:List Value) (Q:VK),Inv X pins σ H s->Vals xs us->r xs H Q->
  wpAny (model X.prog X.w) X.A (call f us) (EP X pins σ Q) X.xe s
def TruR (X:Cx) (r:V->Hp->(Bool->Hp->Prop)->Prop):Prop:=
 ∀(pins:AL) (s:Shared) (σ:St) (H:Hp) (x:V) (v:Value) (Q:Bool->Hp->Prop),Inv X pins σ H s->RelV x v->r x H Q->
  wpAny (model X.prog X.w) X.A (truthy v) (TP X pins σ Q) X.xe s
def tOp (r:R2) (ta tb:TE):TE:=fun σ H Q=>ta σ H fun x H1=>tb σ H1 fun y H2=>r x y H2 Q
def tUn (r:V->Hp->VK->Prop) (ta:TE):TE:=fun σ H Q=>ta σ H fun x H1=>r x H1 Q
def rI (C:Int->Int->Prop) (g:Int->Int->V):R2:=fun x y H Q=> ∃i j,x=.int i/\y=.int j/\C i j/\Q (g i j) H
def qd (g:Int->Int->V):R2:=fun x y H Q=> ∃i j,x=.int i/\y=.int j/\Q (g i j) H
def rU (g:Int->V):V->Hp->VK->Prop:=fun x H Q=> ∃i,x=.int i/\Q (g i) H
section
variable {X:Cx} {a b c:Expr} {ta tb tc:TE} {pos:Pos}
def binT (ha:PE X a ta) (hb:PE X b tb) {pins:AL} {s:Shared} {σ:St} {H:Hp} {R:V->V->Hp->Prop} (I:Inv X pins σ H s)
  (h:ta σ H fun x H1=>tb σ H1 fun y H2=>R x y H2) {Q:VP} {f:Value->Value->Sem Value}
  (hf:∀v u s2 x y H2,Inv X pins σ H2 s2->RelV x v->RelV y u->R x y H2->wpAny (model X.prog X.w) X.A (f v u) Q X.xe s2):
  wpAny (model X.prog X.w) X.A (eval a X.env) (fun v s₁=>wpAny (model X.prog X.w) X.A (eval b X.env) (fun u s₂=>wpAny (model X.prog X.w) X.A (f v u) Q X.xe s₂) X.xe s₁) X.xe s:=by
 refine zn (ha pins s σ H _ I h) fun v s1 ⟨x,H1,I1,r1,q1⟩=>?_
 refine zn (hb pins s1 σ H1 _ I1 q1) fun u s2 ⟨y,H2,I2,r2,q2⟩=>?_
 exact hf v u s2 x y H2 I2 r1 r2 q2
def Nq {op:Operator} {r:R2} (ho:OpR X (binaryOp op) r) (ha:PE X a ta) (hb:PE X b tb):PE X (.BinOp a op b pos) (tOp r ta tb):=by
 intro pins s σ H Q I h;exact wpAny_BinOp (binT ha hb I h fun v u s2 x y H2 I2 rx ry q=>ho pins s2 σ H2 x y v u Q I2 rx ry q)
def Nr {op:UnaryOp} {r:V->Hp->VK->Prop} (ho:UnR X (unaryOp op) r) (ha:PE X a ta):PE X (.UnaryOp op a pos) (tUn r ta):=by
 intro pins s σ H Q I h;exact UnaryOp_ (zn (ha pins s σ H _ I h) fun v s1 ⟨x,H1,I1,r1,q1⟩=>ho pins s1 σ H1 x v Q I1 r1 q1)
def opI {f:Value->Value->Sem Value} {C:Int->Int->Prop} {g:Int->Int->Int}
  (rule:∀(i j:Int) (t u:Tok) (s:Shared) (Q:VP) (E:VP),C i j->Q (.int (g i j) s.toks) {s with toks:=s.toks+1}->wpAny (model X.prog X.w) X.A (f (.int i t) (.int j u)) Q E s):
  OpR X f (rI C fun i j=>.int (g i j)):=by
 intro pins s σ H x y v u Q I rx ry h;obtain⟨i,j,rfl,rfl,hc,q⟩:=h;obtain⟨t,rfl⟩:=rx;obtain⟨t',rfl⟩:=ry;exact rule i j t t' s _ _ hc ⟨.int (g i j),H,I.tok _,⟨_,rfl⟩,q⟩
def opI0 {f:Value->Value->Sem Value} {g:Int->Int->Int}
  (rule:∀(i j:Int) (t u:Tok) (s:Shared) (Q:VP) (E:VP),Q (.int (g i j) s.toks) {s with toks:=s.toks+1}->wpAny (model X.prog X.w) X.A (f (.int i t) (.int j u)) Q E s):
  OpR X f (qd fun i j=>.int (g i j)):=by
 intro pins s σ H x y v u Q I rx ry h;obtain⟨i,j,rfl,rfl,q⟩:=h;obtain⟨t,rfl⟩:=rx;obtain⟨t',rfl⟩:=ry;exact rule i j t t' s _ _ ⟨.int (g i j),H,I.tok _,⟨_,rfl⟩,q⟩
def opB0 {f:Value->Value->Sem Value} {g:Int->Int->Bool}
  (rule:∀(i j:Int) (t u:Tok) (s:Shared) (Q:VP) (E:VP),Q (.bool (g i j)) s->wpAny (model X.prog X.w) X.A (f (.int i t) (.int j u)) Q E s):
  OpR X f (qd fun i j=>.bl (g i j)):=by
 intro pins s σ H x y v u Q I rx ry h;obtain⟨i,j,rfl,rfl,q⟩:=h;obtain⟨t,rfl⟩:=rx;obtain⟨t',rfl⟩:=ry;exact rule i j t t' s _ _ ⟨.bl (g i j),H,I,rfl,q⟩
def CDiv (i j:Int):Prop:=0<j/\j<1073741824
def CPow (i j:Int):Prop:=0<=j/\j<=1000000/\i.natAbs<2 ^ 64
def CMul (i j:Int):Prop:=(-(2 ^ 64)<i/\i<2 ^ 64)\/(-(2 ^ 64)<j/\j<2 ^ 64)
def CMul.ok {i j:Int} (h:CMul i j):IntMulOk i j:=by
 rcases h with ⟨h1,h2⟩|⟨h1,h2⟩
 .exact .of_left (intBits_le_64 h1 h2)
 .exact .of_right (intBits_le_64 h1 h2)
def op_add:OpR X (binaryOp .Add) (qd fun i j=>.int (i+j)):=opI0 fun _ _ _ _ _ _ _ q=>add_int q
def Gk:OpR X (binaryOp .Sub) (qd fun i j=>.int (i-j)):=opI0 fun _ _ _ _ _ _ _ q=>sub_int q
def op_mul:OpR X (binaryOp .Mult) (rI CMul fun i j=>.int (i*j)):=opI fun _ _ _ _ _ _ _ hc q=>mul_int q hc.ok
def Gm:OpR X (binaryOp .FloorDiv) (rI CDiv fun i j=>.int (i / j)):=opI fun i j _ _ _ _ _ hc q=>by
 have h1:(0:Int)<j:=hc.1;have h2:j<1073741824:=hc.2;exact floordiv_int (by lia) (by rw[Int.fdiv_eq_ediv_of_nonneg i (by lia)];exact q) (.inl (PyProof.noPylong_small (by lia)))
def yz:OpR X (binaryOp .Mod) (rI (fun _ j=>0<j) fun i j=>.int (i%j)):=opI fun i j _ _ _ _ _ hc q=>by
 have h1:(0:Int)<j:=hc;exact mod_int' (by lia) (by rw[Int.fmod_eq_emod_of_nonneg i (by lia)];exact q)
def qv:OpR X (binaryOp .Pow) (rI CPow fun i j=>.int (i ^ j.toNat)):=opI fun _ _ _ _ _ _ _ hc q=>pow_int_small hc.1 hc.2.1 hc.2.2 q
def unI {f:Value->Sem Value} {g:Int->Int}
  (rule:∀(i:Int) (t:Tok) (s:Shared) (Q:VP) (E:VP),Q (.int (g i) s.toks) {s with toks:=s.toks+1}->wpAny (model X.prog X.w) X.A (f (.int i t)) Q E s):
  UnR X f (rU fun i=>.int (g i)):=by
 intro pins s σ H x v Q I rx h;obtain⟨i,rfl,q⟩:=h;obtain⟨t,rfl⟩:=rx;exact rule i t s _ _ ⟨.int (g i),H,I.tok _,⟨_,rfl⟩,q⟩
def Nt:UnR X (unaryOp .USub) (rU fun i=>.int (-i)):=unI fun _ _ _ _ _ q=>neg_int q
end
section
variable {X:Cx} {a b c:Expr} {ta tb tc:TE} {pos:Pos}
def AA {pins:AL} {σ:St} {H:Hp} {s:Shared} {Q:VK} {k k':Bool} (I:Inv X pins σ H s) (q:Q (.bl k) H) (e:k=k'):EP X pins σ Q (.bool k') s:=by
 subst e;exact⟨.bl k,H,I,rfl,q⟩
def Nu:OpR X (compareOp .Lt) (qd fun i j=>.bl (decide (i<j))):=opB0 fun _ _ _ _ _ _ _ q=>lt_int q
def DP:OpR X (compareOp .LtE) (qd fun i j=>.bl (decide (i<=j))):=opB0 fun _ _ _ _ _ _ _ q=>le_int q
def Nv:OpR X (compareOp .Gt) (qd fun i j=>.bl (decide (j<i))):=opB0 fun _ _ _ _ _ _ _ q=>gt_int q
def Gn:OpR X (compareOp .Is) (fun x y H Q=>y=.non/\Q (.bl (decide (x=.non))) H):=by
 intro pins s σ H x y v u Q I rx ry h;obtain⟨rfl,q⟩:=h;cases ry
 refine is_none_gen (AA I q ?_)
 cases x<;>first
  | (cases rx;rfl)
  | (obtain⟨t,rfl⟩:=rx;rfl)
def Gp:OpR X (compareOp .IsNot) (fun x y H Q=>y=.non/\Q (.bl (!decide (x=.non))) H):=by
 intro pins s σ H x y v u Q I rx ry h;obtain⟨rfl,q⟩:=h;cases ry
 refine isnot_none_gen (AA I q ?_)
 cases x<;>first
  | (cases rx;rfl)
  | (obtain⟨t,rfl⟩:=rx;rfl)
def OpR.or {f:Value->Value->Sem Value} {r r':R2} (h:OpR X f r) (h':OpR X f r'):OpR X f (fun x y H Q=>r x y H Q\/r' x y H Q):=by
 intro pins s σ H x y v u Q I rx ry q
 rcases q with q|q
 .exact h pins s σ H x y v u Q I rx ry q
 .exact h' pins s σ H x y v u Q I rx ry q
def zT (b:Expr) {op:CmpOp} (h:op≠ .In:=by decide) (h2:op≠ .NotIn:=by decide):behindInMarks op b=false:=by
 have e1:(op==CmpOp.In)=false:=by cases op<;>first|rfl|exact absurd rfl h
 have e2:(op==CmpOp.NotIn)=false:=by cases op<;>first|rfl|exact absurd rfl h2
 cases b<;>simp[behindInMarks,e1,e2]
def Nx {op:CmpOp} {r:R2} (ho:OpR X (compareOp op) r) (ha:PE X a ta) (hb:PE X b tb) (hm:behindInMarks op b=false):PE X (.Compare a [op] [b] pos) (tOp r ta tb):=by
 intro pins s σ H Q I h;exact wpAny_Compare1 (binT ha hb I h fun v u s2 x y H2 I2 rx ry q=>ho pins s2 σ H2 x y v u Q I2 rx ry q) hm
def Ny (t:TE):TT:=fun σ H Q=>t σ H fun x H'=> ∃k,x=.bl k/\Q k H'
def Nz {op:CmpOp} {r:R2} (ho:OpR X (compareOp op) r) (ha:PE X a ta) (hb:PE X b tb) (hm:behindInMarks op b=false):PT X (.Compare a [op] [b] pos) (Ny (tOp r ta tb)):=by
 intro pins s σ H Q I h
 refine wpAny_isTrue_Compare1 (zn (ha pins s σ H _ I h) fun v s1 ⟨x,H1,I1,r1,q1⟩=>zn (hb pins s1 σ H1 _ I1 q1) fun u s2 ⟨y,H2,I2,r2,q2⟩=>
  zn (ho pins s2 σ H2 x y v u _ I2 r1 r2 q2) fun c s3 ⟨z,H3,I3,r3,k,e,q3⟩=>?_) hm
 subst e;cases r3;exact Da ⟨H3,I3,q3⟩
def J0 (r r':R2) (ta tb tc:TE):TE:=fun σ H Q=>ta σ H fun x H1=>tb σ H1 fun y H2=>r x y H2 fun z H3=> ∃k,z=.bl k/\
 (if k=true then tc σ H3 fun w' H4=>r' y w' H4 Q else Q (.bl false) H3)
def N0 {op op':CmpOp} {r r':R2} (ho:OpR X (compareOp op) r) (ho':OpR X (compareOp op') r') (ha:PE X a ta) (hb:PE X b tb) (hc:PE X c tc)
  (hm:lastMarks [op,op'] [b,c]=false:=by with_unfolding_all rfl):PE X (.Compare a [op,op'] [b,c] pos) (J0 r r' ta tb tc):=by
 intro pins s σ H Q I h
 refine Compare_chain (zn (ha pins s σ H _ I h) fun v s1 ⟨x,H1,I1,r1,q1⟩=>chain_link (zn (hb pins s1 σ H1 _ I1 q1) fun u s2 ⟨y,H2,I2,r2,q2⟩=>
  zn (ho pins s2 σ H2 x y v u _ I2 r1 r2 q2) fun d s3 ⟨z,H3,I3,r3,k,e,q3⟩=>?_)) hm
 subst e;cases r3
 refine Da ?_
 cases k with
 |false=>exact ite_ff ⟨.bl false,H3,I3,rfl,q3⟩
 |true=>exact ite_tt (chain_last (zn (hc pins s3 σ H3 _ I3 q3) fun w' s4 ⟨z',H4,I4,r4,q4⟩=>ho' pins s4 σ H4 y z' u w' Q I4 r2 r4 q4))
def TruV (K:FG) (x:V) (H:Hp) (k:Bool):Prop:=
 match x with
 |.non=>k=false
 |.bl b=>k=b
 |.int i=>k=(i !=0)
 |.str y=>y.length<=sizeLine/\k=((y.length:Int) !=0)
 |.byt y=>y.size<=sizeLine/\k=((y.size:Int) !=0)
 |.ref p=>(∃xs,SqL K H p xs/\k= !xs.isEmpty)\/(∃xs,SqT K H p xs/\k= !xs.isEmpty)\/∃kvs,H p=some (.dK kvs)/\k= !kvs.isEmpty
 |_=>False
def N1 {κ:Type} {kvs:List (κ×V)} {vs:List (κ×Value)} (r:KV kvs vs):(!vs.isEmpty)= !kvs.isEmpty:=by
 cases r<;>rfl
def J1 {xs:List V} {its:List Value} (r:Vals xs its):(!its.toArray.isEmpty)= !xs.isEmpty:=by
 cases r<;>simp
def CL:(sizeLine:Nat)<2 ^ 63:=by rw[Ci];decide
def N2:TruR X (fun x H Q=> ∃k,TruV X.K x H k/\Q k H):=by
 intro pins s σ H x v Q I rx h;obtain⟨k,e,q⟩:=h;have hl:=CL;have hs:sizeLine=16777216:=Ci;cases x with
 |non=>
  cases rx;have e':k=false:=e;subst e';exact truthy_none ⟨H,I,q⟩
 |bl b=>
  cases rx;have e':k=b:=e;subst e';exact Da ⟨H,I,q⟩
 |int i=>
  obtain⟨t,rfl⟩:=rx;have e':k=(i !=0):=e;subst e';exact PySem.P.truthy_int ⟨H,I,q⟩
 |str y=>
  obtain⟨t,rfl⟩:=rx;obtain⟨hy,e'⟩:y.length<=sizeLine/\k=((y.length:Int) !=0):=e;subst e';exact PySem.P.truthy_str (by lia) ⟨H,I.tok _,q⟩
 |byt y=>
  obtain⟨t,rfl⟩:=rx;obtain⟨hy,e'⟩:y.size<=sizeLine/\k=((y.size:Int) !=0):=e;subst e';exact PySem.W.truthy_bytes (by lia) ⟨H,I.tok _,q⟩
 |ref p=>
  cases rx;have e':(∃xs,SqL X.K H p xs/\k= !xs.isEmpty)\/(∃xs,SqT X.K H p xs/\k= !xs.isEmpty)\/∃kvs,H p=some (.dK kvs)/\k= !kvs.isEmpty:=e
  rcases e' with ⟨xs,hx,e'⟩|⟨xs,hx,e'⟩|⟨kvs,hx,e'⟩
  .subst e'
   obtain⟨its,r,pl,hz⟩:=I.list hx;have hlen:=r.length;exact wpAny_truthy_list pl.isList (by simp only[Al];lia) ⟨H,I.tok _,by rw[J1 r];exact q⟩
  .subst e'
   obtain⟨its,r,pl,hz⟩:=I.tuple hx;have hlen:=r.length;exact truthy_tuple pl (by simp only[Al];lia) ⟨H,I.tok _,by rw[J1 r];exact q⟩
  .subst e'
   obtain⟨hz,hS,vs,r,m⟩:kvs.length<=sizeLine/\(p==sysModules)=false/\∃vs,KV kvs vs/\s.heap.DictOf (BI X.prog X.w) p vs:=I.hok p _ hx;have hlen:kvs.length=vs.length:=Paired.length r;exact wpAny_truthy_dict hS m (by lia) ⟨H,I.tok _,by rw[N1 r];exact q⟩
 |_=>exact (show False from e).elim
def N3 (ha:PE X a ta) (he:∀whole,isTrue a X.env whole=(do let v <-whole;standAt a.pos;holding [v] (truthy v))):
  PT X a (fun σ H Q=>ta σ H fun x H'=> ∃k,TruV X.K x H' k/\Q k H'):=by
 intro pins s σ H Q I h;exact isTrue_plain (zn (ha pins s σ H _ I h) fun v s1 ⟨x,H1,I1,r1,q1⟩=>N2 pins s1 σ H1 x v Q I1 r1 q1) (he _)
def op_add_str:OpR X (binaryOp .Add) (fun x y H Q=> ∃i j,x=.str i/\y=.str j/\i.length+j.length<=sizeLine/\Q (.str (i++j)) H):=by
 intro pins s σ H x y v u Q I rx ry h;obtain⟨i,j,rfl,rfl,hz,q⟩:=h;obtain⟨t,rfl⟩:=rx;obtain⟨t',rfl⟩:=ry;exact add_str (fun t' tk=>⟨.str (i++j),H,I.tok _,⟨_,rfl⟩,q⟩) hz
def AH {x:V} {us:List Value} (r:Vals [x] us):∃u,us=[u]/\RelV x u:=by
 cases r with
 |cons r1 r2=>cases r2;exact⟨_,rfl,r1⟩
def DQ {x y:V} {us:List Value} (r:Vals [x,y] us):∃u w',us=[u,w']/\RelV x u/\RelV y w':=by
 cases r with
 |cons r1 r2=>
  cases r2 with
  |cons r3 r4=>cases r4;exact⟨_,_,rfl,r1,r3⟩
def N4 (hc:X.calm=true):CallR X (.builtin "max") (fun xs H Q=> ∃i j,xs=[.int i,.int j]/\Q (.int (if j > i then j else i)) H):=by
 intro pins s σ H xs us Q I r h;obtain⟨i,j,rfl,q⟩:=h;obtain⟨u,w',rfl,⟨t,rfl⟩,⟨t',rfl⟩⟩:=DQ r
 refine max_two_ints (I.ok.hd hc) fun h' tk k=>⟨_,H,I.kept k,?_,q⟩
 by_cases hj:j > i
 .rw[Aa hj,Aa hj];exact⟨_,rfl⟩
 .rw[Ab hj,Ab hj];exact⟨_,rfl⟩
def N5:CallR X (.type "str") (fun xs H Q=> ∃i,xs=[.int i]/\i.natAbs.log2<1920/\Q (.str (toString i)) H):=by
 intro pins s σ H xs us Q I r h;obtain⟨i,rfl,hz,q⟩:=h;obtain⟨u,rfl,t,rfl⟩:=AH r;exact PySem.P.str_of_int hz ⟨.str _,H,I.tok _,⟨_,rfl⟩,q⟩
def LenV (K:FG) (x:V) (H:Hp) (n:Nat):Prop:=
 match x with
 |.str y=>y.length<=sizeLine/\n=y.length
 |.byt y=>y.size<=sizeLine/\n=y.size
 |.ref p=>(∃xs,SqL K H p xs/\n=xs.length)\/∃xs,SqT K H p xs/\n=xs.length
 |_=>False
def N6:CallR X (.builtin "len") (fun xs H Q=> ∃x n,xs=[x]/\LenV X.K x H n/\Q (.int n) H):=by
 intro pins s σ H xs us Q I r h;obtain⟨x,n,rfl,e,q⟩:=h;obtain⟨u,rfl,rx⟩:=AH r;have hl:=CL;have hs:sizeLine=16777216:=Ci;cases x with
 |str y=>
  obtain⟨t,rfl⟩:=rx;obtain⟨hy,e'⟩:y.length<=sizeLine/\n=y.length:=e;subst e';exact len_str (by lia) ⟨.int _,H,I.tok _,⟨_,rfl⟩,q⟩
 |byt y=>
  obtain⟨t,rfl⟩:=rx;obtain⟨hy,e'⟩:y.size<=sizeLine/\n=y.size:=e;subst e';exact PySem.W.len_bytes (by lia) ⟨.int _,H,I.tok _,⟨_,rfl⟩,q⟩
 |ref p=>
  cases rx;have e':(∃xs,SqL X.K H p xs/\n=xs.length)\/∃xs,SqT X.K H p xs/\n=xs.length:=e
  rcases e' with ⟨xs,hx,e'⟩|⟨xs,hx,e'⟩
  .subst e'
   obtain⟨its,r',pl,hz⟩:=I.list hx;have hlen:=r'.length;exact Calls.call_len_list pl.isList (by simp only[Al];lia) ⟨.int xs.length,H,I.tok _,⟨_,by simp only[Al];rw[hlen]⟩,q⟩
  .subst e'
   obtain⟨its,r',pl,hz⟩:=I.tuple hx;have hlen:=r'.length;exact len_tuple pl (by simp only[Al];lia) ⟨.int xs.length,H,I.tok _,⟨_,by simp only[Al];rw[hlen]⟩,q⟩
 |_=>exact (show False from e).elim
end
structure ObjM (h:Heap) (x dx C:Addr) (mA:Str->Option Value):Prop where
 obj:h.get? x=some (PySem.W.instObj C dx)
 ns:h.Ns1 dx mA
 ne:dx≠x
def N7 {h:Heap} {dx:Addr} {mA:Str->Option Value} (n:h.Ns1 dx mA):∃od,h.get? dx=some od/\∀name,PySem.W.lookIn name od=some (mA name):=by
 obtain⟨o,es,ep,ho,hd,hk,_,hm⟩:=n
 refine⟨o,ho,fun name=>?_⟩
 have e:=hm name;unfold nsFind findBy at e;rw[<-Array.find?_toList]at e
 unfold PySem.W.lookIn;rw[hd];dsimp only
 split
 .rename_i y q
  rw[q]at e;exact congrArg some e
 .rename_i q
  rw[q]at e;have a:es.toList.any (·.refKey)=false:=by
   rw[List.any_eq_false];intro y hy;obtain⟨z,t,hkey⟩:=hk y (Array.mem_toList_iff.mp hy);simp[DictEntry.refKey,hkey]
  have a': ¬es.toList.any (·.refKey)=true:=by rw[a];exact A2
  rw[Ab a'];exact congrArg some e
def ObjM.look {h:Heap} {x dx C:Addr} {mA:Str->Option Value} (I:ObjM h x dx C mA):∃od,PySem.W.InstAt h x (PySem.W.instObj C dx) C (some od)/\∀name,PySem.W.lookIn name od=some (mA name):=
 let ⟨od,ho,hl⟩:=N7 I.ns
 ⟨od,⟨I.obj,rfl,rfl,ho⟩,hl⟩
section
variable {prog:Program} {w:World} {A:Around} {E:VP} {s:Shared} {K:FG} {x dx C f:Addr} {mA:Str->Option Value} {name:Str} {v:Value}
def N8 {ns:List Str} {Q:Unit->Shared->Prop} (X:K.In s.heap) (I:ObjM s.heap x dx C mA)
  (hs:PySem.W.findIn K (.ref C) "__setattr__" =some (some (.builtin "object.__setattr__"))) (hp:PySem.W.plainOver K C=true) (ht:PySem.W.takerIn K C name=some none) (hh:PySem.W.hasDictIn K C=true)
  (hw:PySem.Within mA ns) (hsz:ns.length<=sizeLine)
  (h:∀h',ObjM h' x dx C (fun y=>if y=name then some v else mA y)->Heap.SameBut dx s.heap h'->Q () {s with heap:=h',toks:=s.toks+2}):
  wpAny (model prog w) A (setAttr (.ref x) name v) Q E s:=by
 obtain⟨od,J,hl⟩:=I.look
 refine PySem.W.set_plain X J hs (PySem.W.osa_open (s:={s with toks:=s.toks+1}) (r:=none) X J hp ht fun b=>?_)
 obtain⟨cd,hc,hd'⟩:=PySem.W.any_some hh;have hx:s.heap.get? x=some ⟨.ref C,some dx,.plain,#[]⟩:=I.obj
 refine Ae (Ai (Ae (Ae (wpAny_loadPart hx (Ae (PySem.W.Looks.here (s:={s with toks:=s.toks+1}) (PySem.W.looks_clsIn X hc) ?_))))))
 rw[hd']
 refine Ai (a:=some dx) (Ae (Ai (Ae ?_)))
 refine wpAny_nsSet1 (s:={s with toks:=s.toks+1}) I.ns fun h' hn2 hs2=>?_
 obtain⟨oD,esD,epD,hoD,hdD,hcD⟩:=hn2.count (PySem.Within.cons name v hw)
 refine Ae (wpAny_lookBehind hoD (by rw[hdD];exact pastItsLine_dict (Nat.le_trans hcD (by rw[Ay];lia))) ?_)
 exact Ai (h _ ⟨(hs2.2 _ (Av I.ne)).trans I.obj,hn2,I.ne⟩ hs2)
def N9 {R:Result->Shared->Prop} {vs:List Value} {kw:List (Str×Value)} (X:K.In s.heap) (hm:PySem.W.makesIn K C=true)
  (hi:PySem.W.findIn K (.ref C) "__init__" =some (some (.ref f))) (hf:PySem.W.typeIn K (.ref f)=some (.type "function"))
  (h:codeAny (model prog w) (A.under (.builtin "type.__call__" ⟨.ref C::vs,kw⟩)) (.call (.ref f) ⟨.ref (s.heap.objs.size+1)::vs,kw⟩) (PySem.W.InitBack (s.heap.objs.size+1) R)
   {s with heap:=(s.heap.push PySem.W.emptyDict).push (PySem.W.instObj C s.heap.objs.size)}):
  codeAny (model prog w) A (.call (.ref C) ⟨vs,kw⟩) R s:=by
 obtain⟨hh,g,d,t,os⟩:=s;exact PySem.W.make_core (PySem.W.makes_of X hm) (Cq X hi) (fun self=>PySem.W.bind_fn X self hf) (.inl rfl) h
end
noncomputable def putF (f:Str) (v:V):List (Str×V)->List (Str×V)
 | []=>[(f,v)]
 | (g,x)::r=>if g=f then (g,v)::r else (g,x)::putF f v r
theorem J2 (f g:Str) (v:V):∀fs:List (Str×V),(putF f v fs).lookup g=if g=f then some v else fs.lookup g
 | []=>by
  show List.lookup g [(f,v)]=_
  by_cases h:g=f
  .have hb:(g==f)=true:=Af.mpr h
   simp only[List.lookup,hb,Aa h]
  .have hb:(g==f)=false:=D2.mpr h
   simp only[List.lookup,hb,Ab h]
 | (k,x)::r=>by
  have ih:=J2 f g v r;rw[show putF f v ((k,x)::r)=(if k=f then (k,v)::r else (k,x)::putF f v r) from rfl]
  by_cases hk:k=f
  .rw[Aa hk]
   by_cases h:g=k
   .have hb:(g==k)=true:=Af.mpr h
    simp only[List.lookup,hb,Aa (h.trans hk)]
   .have hb:(g==k)=false:=D2.mpr h
    simp only[List.lookup,hb,Ab (fun e:g=f=>h (e.trans hk.symm))]
  .rw[Ab hk]
   by_cases h:g=k
   .have hb:(g==k)=true:=Af.mpr h
    simp only[List.lookup,hb,Ab (fun e:g=f=>hk (h.symm.trans e))]
   .have hb:(g==k)=false:=D2.mpr h
    simp only[List.lookup,hb];exact ih
theorem HA (f:Str) (v:V):∀fs:List (Str×V),f∈(putF f v fs).map (·.1)/\∀g,g∈fs.map (·.1)->g∈(putF f v fs).map (·.1)
 | []=>⟨by simp[putF],fun g h=>by simp at h⟩
 | (k,x)::r=>by
  obtain⟨i1,i2⟩:=HA f v r;rw[show putF f v ((k,x)::r)=(if k=f then (k,v)::r else (k,x)::putF f v r) from rfl]
  by_cases hk:k=f
  .rw[Aa hk]
   subst hk;exact⟨by simp,fun g h=>by simpa using h⟩
  .rw[Ab hk]
   refine⟨?_,fun g h=>?_⟩
   .rw[Ak]
    exact A1 _ i1
   .rw[Ak]at h ⊢
    rcases Ag.mp h with e|e
    .exact Ag.mpr (.inl e)
    .exact A1 _ (i2 g e)
theorem J3 (f:Str) (v:V):∀fs:List (Str×V),(putF f v fs).length<=fs.length+1
 | []=>by simp[putF]
 | (k,x)::r=>by
  have ih:=J3 f v r;rw[show putF f v ((k,x)::r)=(if k=f then (k,v)::r else (k,x)::putF f v r) from rfl]
  by_cases hk:k=f
  .rw[Aa hk,Ay,Ay];lia
  .rw[Ab hk,Ay,Ay];lia
section
variable {P:Program} {w:World} {H H':Hp} {h h':Heap} {a C dx:Addr} {fs fs':List (Str×V)}
def J4 (hok:HOk P w H h) (e:H a=some (.ins C dx fs)):∃mA,ObjM h a dx C mA/\(∀f,RelO (fs.lookup f) (mA f))/\PySem.Within mA (fs.map (·.1))/\fs.length<=1000/\H dx=some (.own a):=by
 obtain⟨d,z,ne,ob,mA,n,r,q⟩:=(show ObjOk P w H h a (.ins C dx fs) from hok a _ e)
 exact⟨mA,⟨ob,n,ne⟩,r,q,z,d⟩
end
structure Cls (K:FG) (C:Addr):Prop where
 pg:PySem.W.plainGet K C Str.empty=true
 hd:PySem.W.hasDictIn K C=true
 po:PySem.W.plainOver K C=true
 sa:PySem.W.findIn K (.ref C) "__setattr__" =some (some (.builtin "object.__setattr__"))
def Cls.get {K:FG} {C:Addr} (c:Cls K C) (f:Str):PySem.W.plainGet K C f=true:=c.pg
def NoAttr (K:FG) (C:Addr) (f:Str):Prop:=PySem.W.findIn K (.ref C) f=some none
def NoAttr.taker {K:FG} {C:Addr} {f:Str} (n:NoAttr K C f):PySem.W.takerIn K C f=some none:=by
 unfold PySem.W.takerIn;rw[show PySem.W.findIn K (.ref C) f=some none from n]
 rfl
section
variable {X:Cx} {pins:AL} {σ:St} {H:Hp} {s:Shared} {a C dx:Addr} {fs:List (Str×V)} {f:Str} {v:V} {A:Around} {E:VP}
def NA {y:V} {u:Value} {Q:Unit->Shared->Prop} (I:Inv X pins σ H s) (e:H a=some (.ins C dx fs)) (c:Cls X.K C) (n:NoAttr X.K C f) (hl:fs.length<1000) (ry:RelV y u)
  (h:∀s',Inv X pins σ (zh H a (.ins C dx (putF f y fs))) s'->Q () s'):wpAny (model X.prog X.w) A (setAttr (.ref a) f u) Q E s:=by
 obtain⟨mA,O,r,wi,_,ho⟩:=J4 I.hok e;have hz:(fs.map (·.1)).length<=sizeLine:=by rw[Ap,Ci];lia
 refine N8 I.kIn O c.sa c.po n.taker c.hd wi hz fun h' O' sb=>h _ ?_
 have hd:∃o,h'.get? dx=some o:=let ⟨o,_,_,e',_⟩:=O'.ns;⟨o,e'⟩
 refine I.write (x:=a) (e:=dx) (by rw[e];exact True.intro) (.inr ho) (fun b q hb z=>(sb.2 b hb).trans z) hd ?_
 refine⟨by rw[zj O.ne];exact ho,?_,O.ne,O'.obj,_,O'.ns,fun g=>?_,fun g hg=>?_⟩
 .have:=J3 f y fs;lia
 .show RelO ((putF f y fs).lookup g) (if g=f then some u else mA g)
  rw[J2]
  by_cases q:g=f
  .rw[Aa q,Aa q];exact ry
  .rw[Ab q,Ab q];exact r g
 .by_cases q:g=f
  .rw[q];exact (HA f y fs).1
  .refine (HA f y fs).2 g (wi g fun z=>hg ?_)
   show (if g=f then some u else mA g)=none
   rw[Ab q];exact z
def Inv.made (I:Inv X pins σ H s):Inv X pins σ (zh (zh H s.heap.objs.size (.own (s.heap.objs.size+1))) (s.heap.objs.size+1) (.ins C s.heap.objs.size []))
  {s with heap:=(s.heap.push PySem.W.emptyDict).push (PySem.W.instObj C s.heap.objs.size)}:=by
 have e1:(s.heap.push PySem.W.emptyDict).get? s.heap.objs.size=some PySem.W.emptyDict:=Bn s.heap rfl;have e2:((s.heap.push PySem.W.emptyDict).push (PySem.W.instObj C s.heap.objs.size)).get? (s.heap.objs.size+1)=some (PySem.W.instObj C s.heap.objs.size):=by
  have:=Bn (s.heap.push PySem.W.emptyDict) (o:=PySem.W.instObj C s.heap.objs.size) rfl
  rwa [Heap.size_push]at this
 have e3:(s.heap.push PySem.W.emptyDict).Ns s.heap.objs.size (fun _=>none):=⟨PySem.W.emptyDict,#[],_,e1,rfl,(fun e he=>absurd he (by simp)),fun _=>rfl⟩
 have I1:=I.laid (a:=s.heap.objs.size) (o:= .own (s.heap.objs.size+1)) (h':=s.heap.push PySem.W.emptyDict) (t':=s.toks) (fun b u q=>Ao _ q) (Nat.le_refl _) ⟨_,e1⟩
 refine I1.laid (a:=s.heap.objs.size+1) (o:= .ins C s.heap.objs.size []) (t':=s.toks) (fun b u q=>Ao _ q) (Nat.le_of_eq (Heap.size_push _ _)) ?_
 have ne:s.heap.objs.size≠s.heap.objs.size+1:=Au (Nat.lt_succ_self _)
 refine⟨by rw[zj ne,zF],B9 _,ne,e2,fun _=>none,(Heap.Ns1.of_empty e3).at fun o q=>Ao _ q,fun _=>True.intro,fun y hy=>absurd rfl hy⟩
def NB {prog:Program} {w:World} {env:Env} {e:Expr} {f:Str} {pos:Pos} {s:Shared} {Q:VP} (hb:attributeBase e f env (eval e env)=eval e env)
  (h:wpAny (model prog w) A (eval e env) (fun o s₁=>wpAny (model prog w) A (getAttr o f true) Q E s₁) E s):wpAny (model prog w) A (eval (.Attribute e f pos) env) Q E s:=
 Attribute_any_ h (by rw[arm_eval_Attribute,hb])
end
def sFld (K:FG) (ta tv:TE) (f:Str):TS:=fun D σ H=>tv σ H fun y H1=>ta σ H1 fun x H2=> ∃a C dx fs,x=.ref a/\H2 a=some (.ins C dx fs)/\Cls K C/\NoAttr K C f/\fs.length<1000/\
 D.nx σ (zh H2 a (.ins C dx (putF f y fs)))
section
variable {X:Cx} {o e value:Expr} {f:Str} {pos pos' tpos:Pos} {ta tv:TE}
def NC (ha:PE X o ta) (hv:PE X value tv) (hs:swapsWith value (some (.Attribute o f pos')) pos.line X.env=pure false):PS X (.Assign [.Attribute o f pos'] value pos) (sFld X.K ta tv f):=by
 intro pins s σ H D I h
 refine plainObj_wpAny_Assign_Attribute (zn (hv pins s σ H _ I h) fun u s1 ⟨y,H1,I1,ry,q⟩=>zn (ha pins s1 σ H1 _ I1 q) fun ov s2 ⟨x,H2,I2,rx,a,C,dx,fs,ex,ea,c,n,l,q2⟩=>?_) hs
 subst ex;obtain rfl:ov=Value.ref a:=rx;exact NA I2 ea c n l ry fun s3 I3=>⟨σ,_,I3,q2⟩
end
section
variable {X:Cx} {pins:AL} {σ:St} {H:Hp} {s:Shared} {A:Around} {E:VP} {Q:VP} {c:Value} {b:Bool}
inductive TyOf (K:FG) (H:Hp):V->Value->Prop where
 |non:TyOf K H .non (.type "NoneType")
 |bl (x:Bool):TyOf K H (.bl x) (.type "bool")
 |int (i:Int):TyOf K H (.int i) (.type "int")
 |str (x:Str):TyOf K H (.str x) (.type "str")
 |flt (x:UInt64):TyOf K H (.flt x) (.type "float")
 |lst {a:Addr} {xs:List V} (e:H a=some (.lst xs)):TyOf K H (.ref a) (.type "list")
 |frz {a:Addr} {o:Obj} {xs:List V} (e:H a=some (.frz o (.lst xs))):TyOf K H (.ref a) (.type "list")
 |tup {a:Addr} {xs:List V} (e:H a=some (.tup xs)):TyOf K H (.ref a) (.type "tuple")
 |dK {a:Addr} {kvs:List (zw×V)} (e:H a=some (.dK kvs)):TyOf K H (.ref a) (.type "dict")
 |dT {a:Addr} {kvs:List (MK×V)} (e:H a=some (.dT kvs)):TyOf K H (.ref a) (.type "dict")
 |ins {a C dx:Addr} {fs:List (Str×V)} (e:H a=some (.ins C dx fs)) (cl:Cls K C) (ha:PySem.W.findIn K (.ref C) "__class__" =some (some (.builtin "object.__class__")))
  (hn:PySem.W.specialIn K (.builtin "object.__class__") "__get__" =some (some (.builtin "getset_descriptor.__get__"))) (htk:PySem.W.takesIn K (.builtin "object.__class__")=some true)
  (hm:PySem.W.mroIn K C (.type "object")=some true):TyOf K H (.ref a) (.ref C)
def ND {x:V} {u t:Value} (I:Inv X pins σ H s) (rx:RelV x u) (ty:TyOf X.K H x t) (e:PySem.W.kitOne X.K t c=some b) (h:∀tk,Q (.bool b) {s with toks:=tk}):
  wpAny (model X.prog X.w) A (call (.builtin "isinstance") [u,c]) Q E s:=by
 cases ty with
 |non=>cases (show u=Value.none from rx);exact B0 PySem.W.kitx_none I.kIn True.intro e (fun z=>nomatch z) h
 |bl y=>cases (show u=Value.bool y from rx);exact B0 PySem.W.kitx_bool I.kIn True.intro e (fun z=>nomatch z) h
 |int i=>obtain⟨t,q⟩:=(show ∃t,u=Value.int i t from rx);cases q;exact B0 PySem.W.kitx_int I.kIn True.intro e (fun z=>nomatch z) h
 |str y=>obtain⟨t,q⟩:=(show ∃t,u=Value.str y t from rx);cases q;exact B0 PySem.W.kitx_str I.kIn True.intro e (fun z=>nomatch z) h
 |flt y=>obtain⟨t,q⟩:=(show ∃t,u=Value.float y t from rx);cases q;exact B0 PySem.W.kitx_float I.kIn True.intro e (fun z=>nomatch z) h
 | @lst a xs ea=>
  cases (show u=Value.ref a from rx)
  obtain⟨_,_,n,_,h1⟩:=(show ObjOk X.prog X.w H s.heap a (.lst xs) from I.hok a _ ea)
  exact B0 PySem.W.kitx_list I.kIn ⟨_,h1,rfl⟩ e (fun z=>nomatch z) h
 | @frz a ob xs ea=>
  cases (show u=Value.ref a from rx)
  obtain⟨_,_,_,n,_,h1⟩:=(show ObjOk X.prog X.w H s.heap a (.frz ob (.lst xs)) from I.hok a _ ea)
  exact B0 PySem.W.kitx_list I.kIn ⟨_,h1,rfl⟩ e (fun z=>nomatch z) h
 | @tup a xs ea=>
  cases (show u=Value.ref a from rx)
  obtain⟨_,_,_,p⟩:=(show ObjOk X.prog X.w H s.heap a (.tup xs) from I.hok a _ ea)
  obtain⟨o,h1,h2,_⟩:=p;exact B0 PySem.W.kitx_tuple I.kIn ⟨o,h1,h2⟩ e (fun z=>nomatch z) h
 | @dK a kvs ea=>
  cases (show u=Value.ref a from rx)
  obtain⟨_,_,vs,_,p⟩:=(show ObjOk X.prog X.w H s.heap a (.dK kvs) from I.hok a _ ea)
  obtain⟨o,es,ep,h1,h2,_⟩:=p;exact B0 PySem.W.kitx_dict I.kIn ⟨o,h1,h2.1⟩ e (fun z=>nomatch z) h
 | @dT a kvs ea=>
  cases (show u=Value.ref a from rx)
  obtain⟨_,_,xs,_,o,es,ep,h1,h2,_⟩:=(show ObjOk X.prog X.w H s.heap a (.dT kvs) from I.hok a _ ea)
  exact B0 PySem.W.kitx_dict I.kIn ⟨o,h1,h2.1⟩ e (fun z=>nomatch z) h
 | @ins a C dx fs ea cl ha hn htk hm=>
  cases (show u=Value.ref a from rx)
  obtain⟨mA,O,_⟩:=J4 I.hok ea;obtain⟨od,J,_⟩:=O.look;exact B0 (PySem.W.kitx_own (cl.get _) cl.hd ha hn htk hm) I.kIn J e (fun z=>nomatch z) h
end
structure Room (k:Nat) (A:Around):Prop where
 hd:A.handled=none
 dp:A.depth+3*k+5<recursionLimit
 un:A.units+16*k+200<cLine
def Room.mono {j k:Nat} {A:Around} (r:Room k A) (h:j<=k):Room j A:=⟨r.hd,by have:=r.dp;lia,by have:=r.un;lia⟩
theorem Room.deeper {k:Nat} {A:Around} (r:Room (k+1) A) (env:Env):Room k (A.deeper env):=
 ⟨r.hd,by have:=r.dp;show A.depth+1+3*k+5<_;lia,by have:=r.un;show A.units+3+16*k+200<_;lia⟩
def NF {A:Around} {C:Addr} {us:List Value} {kw:List (Str×Value)}:(A.under (.builtin "type.__call__" ⟨.ref C::us,kw⟩)).depth=A.depth+1:=by
 first|rfl|simp[Around.under,Code.weight,Code.isCreation,Code.isGuard,Code.isCaller,Code.frames,Code.isFrame,guardIds]
def NG {A:Around} {C:Addr} {us:List Value} {kw:List (Str×Value)}:(A.under (.builtin "type.__call__" ⟨.ref C::us,kw⟩)).units=A.units+1:=by
 first|rfl|simp[Around.under,Code.cUnits,Code.frames,Code.isFrame]
def Room.make {k:Nat} {A:Around} (r:Room (k+1) A) (C:Addr) (us:List Value) (kw:List (Str×Value)):Room k (A.under (.builtin "type.__call__" ⟨.ref C::us,kw⟩)):=
 ⟨r.hd,by have:=r.dp;rw[NF];lia,by have:=r.un;rw[NG];lia⟩
theorem Room.depth {k:Nat} {A:Around} (r:Room k A):A.depth<recursionLimit:=by have:=r.dp;lia
theorem Room.units {k:Nat} {A:Around} (r:Room k A):A.units+64<cLine:=by have:=r.un;lia
def tNil:TA:=fun _ H Q=>Q [] H
def DR (ta:TE) (tr:TA):TA:=fun σ H Q=>ta σ H fun x H1=>tr σ H1 fun xs H2=>Q (x::xs) H2
section
variable {X:Cx} {e:Expr} {es:List Expr} {te:TE} {t:TA} {pos:Pos}
def DS:PA X [] tNil:=fun _ _ _ _ H Q I h=>Calls.spliced_nil ⟨[],H,I,.nil,h⟩
def AI (ha:PE X e te) (hr:PA X es t) (hs:SE X e es:=by rfl):PA X (e::es) (DR te t):=by
 intro pos pins s σ H Q I h;rw[hs];show wpAny _ _ (spliced ((false,eval e X.env)::backTo pos (starEach es X.env))) _ _ s
 refine Calls.spliced_cons (zn (ha pins s σ H _ I h) fun u s1 ⟨x,H1,I1,r1,q1⟩=>?_)
 exact zn (hr pos pins s1 σ H1 _ I1 q1) fun us s2 ⟨xs,H2,I2,r2,q2⟩=>⟨x::xs,H2,I2,.cons r1 r2,q2⟩
def tTup (t:TA):TE:=fun σ H Q=>t σ H fun xs H1=>xs.length<=sizeLine/\∀p,H1 p=none->Q (.ref p) (zh H1 p (.tup xs))
def tLst (t:TA):TE:=fun σ H Q=>t σ H fun xs H1=>xs.length<=sizeLine/\∀p,H1 p=none->Q (.ref p) (zh H1 p (.lst xs))
def NH {x1} (h:PA X es t):PE X (.Tuple es x1 pos) (tTup t):=by
 intro pins s σ H Q I hq
 refine wpAny_Tuple_spliced (zn (h pos pins s σ H _ I hq) fun us s1 ⟨xs,H1,I1,r,z,q⟩=>⟨by rw[<-r.length];exact z,?_⟩)
 have hf:H1 s1.heap.objs.size=none:=I1.hok.fresh (Nat.le_refl _)
 refine⟨.ref s1.heap.objs.size,zh H1 s1.heap.objs.size (.tup xs),I1.laid (t':=s1.toks) (fun b u e=>Ao _ e) (Nat.le_refl _) ?_,rfl,q _ hf⟩
 exact⟨z,us,r,⟨_,Bn _ rfl,rfl,_,rfl⟩⟩
def NI (h:PA X es t):PE X (.List es pos) (tLst t):=by
 intro pins s σ H Q I hq
 refine wpAny_List_spliced (zn (h pos pins s σ H _ I hq) fun us s1 ⟨xs,H1,I1,r,z,q⟩=>⟨by rw[<-r.length];exact z,?_⟩)
 have hf:H1 s1.heap.objs.size=none:=I1.hok.fresh (Nat.le_refl _)
 refine⟨.ref s1.heap.objs.size,zh H1 s1.heap.objs.size (.lst xs),I1.laid (t':=s1.toks) (fun b u e=>Ao _ e) (Nat.le_refl _) ?_,rfl,q _ hf⟩
 exact⟨z,us,0,r,Bn _ rfl⟩
end
abbrev Sp:=List V->Hp->VK->XK->Prop
abbrev yZ:=List Env->Hp->Shared->XK->VP
structure Env0 (P:Program) (w:World) (K:FG) (mg:Str->Option Value) (base:Heap) (A:Around) (outer:List Env) (s:Shared) (H:Hp):Prop where
 frames:A.frames=some outer
 mod:Mod K mg base
 bs:∀b o,base.get? b=some o->s.heap.get? b=some o/\H b=none
 bsz:base.objs.size<=s.heap.objs.size
 funs:s.heap.FunFrames base outer
 frf:∀b∈z6 outer,H b=none
 hok:HOk P w H s.heap
 bare:AllBare s.gens
def CE (outer:List Env) (P:Program) (w:World) (H:Hp) (s:Shared) (Q:VK) (u:Value) (s':Shared):Prop:=
 ∃v H',s'.os=s.os/\AllBare s'.gens/\Un (z6 outer) [] H H' s.heap s'.heap/\HOk P w H' s'.heap/\RelV v u/\Q v H'
def CR (CX:yZ) (outer:List Env) (P:Program) (w:World) (H:Hp) (s:Shared) (Q:VK) (E:XK) (r:Result) (s':Shared):Prop:=
 match r with
 |.ok (.ret u)=>CE outer P w H s Q u s'
 |.ok _=>False
 |.error e=>CX outer H s E e s'
structure FnOk (P:Program) (w:World) (K:FG) (mg:Str->Option Value) (base:Heap) (CX:yZ) (k:Nat) (f:Addr) (fd:FuncData) (ps:List Str) (sp:Sp):Prop where
 len:∀vs H Q E,sp vs H Q E->vs.length=ps.length
 run:∀(A:Around) (outer:List Env) (s:Shared) (H:Hp) (args:Args) (us:List Value) (vs:List V) (Q:VK) (E:XK),Room k A->Env0 P w K mg base A outer s H->BindsTo s fd args (ps.zip us)->Vals vs us->sp vs H Q E->
  codeAny (model P w) A (.call (.ref f) args) (CR CX outer P w H s Q E) s
def FnOk.imp {P:Program} {w:World} {K:FG} {mg:Str->Option Value} {base:Heap} {CX:yZ} {k:Nat} {f:Addr} {fd:FuncData} {ps:List Str} {sp sp':Sp} (F:FnOk P w K mg base CX k f fd ps sp)
  (h:∀vs H Q E,sp' vs H Q E->sp vs H Q E):FnOk P w K mg base CX k f fd ps sp':=
 ⟨fun vs H Q E q=>F.len vs H Q E (h _ _ _ _ q),fun A outer s H args us vs Q E hr he hb hv hs=>F.run A outer s H args us vs Q E hr he hb hv (h _ _ _ _ hs)⟩
def Env0.make {P:Program} {w:World} {K:FG} {mg:Str->Option Value} {base:Heap} {A:Around} {outer:List Env} {s:Shared} {H:Hp} (e:Env0 P w K mg base A outer s H) (C:Addr) (us:List Value) (kw:List (Str×Value)):
 Env0 P w K mg base (A.under (.builtin "type.__call__" ⟨.ref C::us,kw⟩)) outer s H:=⟨by first|exact e.frames|(simpa[Around.under,Code.envs,Code.isFrame,pushEnvs] using e.frames),e.mod,e.bs,e.bsz,e.funs,e.frf,e.hok,e.bare⟩
section
variable {X:Cx} {pins:AL} {σ:St} {H:Hp} {s s':Shared}
def Inv.env0 (I:Inv X pins σ H s):Env0 X.prog X.w X.K X.mg X.base X.A X.stack s H:=
 ⟨I.ok.frames,I.ok.mod,I.bs,Nat.le_trans I.ok.bsz I.sz,I.stack,I.stkFree,I.hok,I.bare⟩
def Inv.after {Q:VK} {u:Value} (I:Inv X pins σ H s) (h:CE X.stack X.prog X.w H s Q u s'):EP X pins σ Q u s':=by
 obtain⟨v,H',os,bare,un,hok,r,q⟩:=h;obtain⟨hh,g,d,t,os'⟩:=s';obtain rfl:os'=s.os:=os;exact⟨v,H',I.call (h':=hh) (g':=g) (d':=d) (t':=t) (ch:=[]) un hok bare (fun b z=>absurd z (by simp)),r,q⟩
end
def DT (sp:Sp) (dvs:List V) (E:XK) (t:TA):TE:=fun σ H Q=>t σ H fun vs H1=>sp (vs++dvs) H1 Q E
def J5 (C:Addr) (sp:Sp) (dvs:List V) (E:XK) (t:TA):TE:=fun σ H Q=>t σ H fun vs H1=> ∀x dx,H1 x=none->H1 dx=none->dx≠x->
 sp (.ref x::(vs++dvs)) (zh (zh H1 dx (.own x)) x (.ins C dx [])) (fun v H2=>v=.non/\Q (.ref x) H2) E
def Binds (K:FG) (fd:FuncData) (ps:List Str) (ds:List Value):Prop:=
 ∀(s:Shared) (us:List Value),K.In s.heap->(us++ds).length=ps.length->BindsTo s fd ⟨us,[]⟩ (ps.zip (us++ds))
def Binds.all {K:FG} {fd:FuncData} {ps:List Str} (h:∀us:List Value,us.length=ps.length->bindArgs fd ⟨us,[]⟩=pure (ps.zip us)):Binds K fd ps []:=fun s us _ hl=>by
 rw[Bo]at hl ⊢;exact .of_eq (h us hl)
def AB (CX:yZ) (X:Cx) (E:XK):Prop:=∀(pins:AL) (σ:St) (H:Hp) (s:Shared) (e:Value) (s':Shared),Inv X pins σ H s->CX X.stack H s E e s'->X.xe e s'
section
variable {X:Cx} {CX:yZ} {k:Nat} {f C:Addr} {fd:FuncData} {ps:List Str} {sp:Sp} {dvs:List V} {ds:List Value} {E:XK} {x m:Str} {p pos apos:Pos} {e o:Expr} {es:List Expr} {ta:TE} {t:TA}
def NJ {pins:AL} {σ:St} {H:Hp} {s:Shared} {Q:VK} {us:List Value} {vs:List V} (F:FnOk X.prog X.w X.K X.mg X.base CX k f fd ps sp) (hr:Room k X.A) (hb:Binds X.K fd ps ds) (hd:Vals dvs ds) (hx:AB CX X E)
  (I:Inv X pins σ H s) (r:Vals vs us) (h:sp (vs++dvs) H Q E):wpAny (model X.prog X.w) X.A (call (.ref f) us) (EP X pins σ Q) X.xe s:=by
 have r2:Vals (vs++dvs) (us++ds):=r.append hd;have hl:(us++ds).length=ps.length:=by rw[<-r2.length];exact F.len _ _ _ _ h
 refine Dc (Dd (F.run X.A X.stack s H ⟨us,[]⟩ (us++ds) (vs++dvs) Q E hr I.env0 (hb s us I.kIn hl) r2 h) fun r s' hq=>?_)
 cases r with
 |error e=>exact hx pins σ H s e s' I hq
 |ok fl=>
  cases fl with
  |ret u=>exact I.after hq
  |next=>exact False.elim hq
  |brk=>exact False.elim hq
  |cont=>exact False.elim hq
def NK (F:FnOk X.prog X.w X.K X.mg X.base CX k f fd ps sp) (hr:Room k X.A) (hg:Gl X x) (hm:X.mg x=some (.ref f)) (hk:PySem.W.keepIn X.K (.ref f)=true) (hb:Binds X.K fd ps ds) (hd:Vals dvs ds) (hx:AB CX X E)
  (ha:PA X (e::es) t) (hdb:(x==("__debug__" :Str))=false:=by decide) (he:SE X e es:=by rfl) (hpl:BA X pos es:=by rfl):
  PE X (.Call (.Name x p) (e::es) [] pos) (DT sp dvs E t):=by
 intro pins s σ H Q I h
 refine C1 (AG I hg hm ?_ hdb)
 refine Et (h₀:=X.base) I.ok.mod.kin hk (zn (ha pos pins s σ H _ I h) fun us s1 ⟨vs,H1,I1,r,q⟩=>⟨I1.kIn,?_⟩) he hpl
 exact NJ F hr hb hd hx I1 r q
structure Mk (K:FG) (C f:Addr):Prop where
 makes:PySem.W.makesIn K C=true
 init:PySem.W.findIn K (.ref C) "__init__" =some (some (.ref f))
 fn:PySem.W.isFn K (.ref f)=true
 kp:PySem.W.keepIn K (.ref C)=true
def NL {pins:AL} {σ:St} {H:Hp} {s:Shared} {Q:VK} {us:List Value} {vs:List V} (M:Mk X.K C f) (F:FnOk X.prog X.w X.K X.mg X.base CX k f fd ps sp) (hr:Room (k+1) X.A) (hb:Binds X.K fd ps ds) (hd:Vals dvs ds)
  (hx:AB CX X E) (I:Inv X pins σ H s) (r:Vals vs us)
  (h:∀x dx,H x=none->H dx=none->dx≠x->sp (.ref x::(vs++dvs)) (zh (zh H dx (.own x)) x (.ins C dx [])) (fun v H2=>v=.non/\Q (.ref x) H2) E):
  wpAny (model X.prog X.w) X.A (call (.ref C) us) (EP X pins σ Q) X.xe s:=by
 have hq:=h (s.heap.objs.size+1) s.heap.objs.size (I.hok.fresh (De _)) (I.hok.fresh (Nat.le_refl _)) (Au (Nat.lt_succ_self _));have I2:=Inv.made (C:=C) I;have r2:Vals (V.ref (s.heap.objs.size+1)::(vs++dvs)) (Value.ref (s.heap.objs.size+1)::(us++ds)):= .cons rfl (r.append hd);have hl:(Value.ref (s.heap.objs.size+1)::us++ds).length=ps.length:=by
  have e:=r2.length;rw[F.len _ _ _ _ hq]at e;exact e.symm
 refine Dc (N9 (f:=f) I.kIn M.makes M.init (Af.mp M.fn) (Dd (F.run _ X.stack _ _ ⟨Value.ref (s.heap.objs.size+1)::us,[]⟩ (Value.ref (s.heap.objs.size+1)::(us++ds)) _ _ E (hr.make C us [])
  (I2.env0.make C us []) (hb _ (Value.ref (s.heap.objs.size+1)::us) I2.kIn hl) r2 hq) fun r s' hq'=>?_))
 cases r with
 |error e=>exact hx pins σ _ _ e s' I2 hq'
 |ok fl=>
  cases fl with
  |ret u=>
   obtain⟨v,H',I3,rv,ev,q3⟩:=I2.after hq';subst ev;exact⟨rv,⟨V.ref (s.heap.objs.size+1),H',I3,rfl,q3⟩⟩
  |next=>exact False.elim hq'
  |brk=>exact False.elim hq'
  |cont=>exact False.elim hq'
def NM (M:Mk X.K C f) (F:FnOk X.prog X.w X.K X.mg X.base CX k f fd ps sp) (hr:Room (k+1) X.A) (hg:Gl X x) (hm:X.mg x=some (.ref C)) (hb:Binds X.K fd ps ds) (hd:Vals dvs ds) (hx:AB CX X E)
  (ha:PA X (e::es) t) (hdb:(x==("__debug__" :Str))=false:=by decide) (he:SE X e es:=by rfl) (hpl:BA X pos es:=by rfl):
  PE X (.Call (.Name x p) (e::es) [] pos) (J5 C sp dvs E t):=by
 intro pins s σ H Q I h
 refine C1 (AG I hg hm ?_ hdb)
 refine Et (h₀:=X.base) I.ok.mod.kin M.kp (zn (ha pos pins s σ H _ I h) fun us s1 ⟨vs,H1,I1,r,q⟩=>⟨I1.kIn,?_⟩) he hpl
 exact NL M F hr hb hd hx I1 r q
end
structure FnScope (N P:List Str) (sc:Scope):Prop where
 kind:sc.kind=.function
 co:sc.isCoroutine=false
 gen:sc.isGenerator=false
 nd:N.Nodup
 pre:N.take P.length=P
 par:∀x∈P,sc.names.lookup x=some .local\/sc.names.lookup x=some .cell
 nofree:∀y∈sc.names,y.2≠ .free
theorem J6 {kindOf:Str->Option NameKind} {x:Str}:∀{binds:List (Str×Value)} {m:Str->Option Value},(∀v,(x,v)∉binds)->bindL kindOf binds m x=m x
 | [],_,_=>rfl
 | (n,v)::r,m,h=>by
  unfold bindL;rw[J6 fun w hw=>h w (A1 _ hw)]
  split
  .have:x≠n:=by rintro rfl;exact h v Ax
   simp[this]
  .rfl
theorem J7 {kindOf:Str->Option NameKind} {x:Str}:∀{binds:List (Str×Value)} {m:Str->Option Value},(∀v,(x,v)∉binds)->bindC kindOf binds m x=m x
 | [],_,_=>rfl
 | (n,v)::r,m,h=>by
  unfold bindC;rw[J7 fun w hw=>h w (A1 _ hw)]
  split
  .rfl
  .have:x≠n:=by rintro rfl;exact h v Ax
   simp[this]
theorem J8 {kindOf:Str->Option NameKind} {x:Str} {v:Value}:∀{P:List Str} {vs:List Value} {i:Nat} {m:Str->Option Value},P.Nodup->P[i]? =some x->vs[i]? =some v->kindOf x=some .local->
  bindL kindOf (P.zip vs) m x=some v
 | [],_,_,_,_,h,_,_=>by simp at h
 |_::_,[],_,_,_,_,h,_=>by simp at h
 |p::P,w::vs,0,m,nd,h1,h2,hk=>by
  simp at h1 h2;subst h1;subst h2;show bindL kindOf ((p,w)::P.zip vs) m p=_;unfold bindL;rw[J6 fun v hv=>(B1.mp nd).1 (Eu hv).1,Aa hk]
  simp
 |p::P,w::vs,i+1,m,nd,h1,h2,hk=>by
  show bindL kindOf ((p,w)::P.zip vs) m x=_;unfold bindL;exact J8 (i:=i) (B1.mp nd).2 (by simpa using h1) (by simpa using h2) hk
theorem J9 {kindOf:Str->Option NameKind} {x:Str} {v:Value}:∀{P:List Str} {vs:List Value} {i:Nat} {m:Str->Option Value},P.Nodup->P[i]? =some x->vs[i]? =some v->kindOf x≠some .local->
  bindC kindOf (P.zip vs) m x=some v
 | [],_,_,_,_,h,_,_=>by simp at h
 |_::_,[],_,_,_,_,h,_=>by simp at h
 |p::P,w::vs,0,m,nd,h1,h2,hk=>by
  simp at h1 h2;subst h1;subst h2;show bindC kindOf ((p,w)::P.zip vs) m p=_;unfold bindC;rw[J7 fun v hv=>(B1.mp nd).1 (Eu hv).1,Ab hk]
  simp
 |p::P,w::vs,i+1,m,nd,h1,h2,hk=>by
  show bindC kindOf ((p,w)::P.zip vs) m x=_;unfold bindC;exact J9 (i:=i) (B1.mp nd).2 (by simpa using h1) (by simpa using h2) hk
noncomputable def start (N:List Str) (vs:List V):St:=vs.map some++List.replicate (N.length-vs.length) none
noncomputable def yf (CX:yZ) (P:Program) (w:World) (K:FG) (mg:Str->Option Value) (base:Heap) (N:List Str) (qual:Str) (scope:Scope) (f:Addr) (cd:Value) (A:Around) (outer:List Env) (s:Shared) (H:Hp) (E:XK):Cx where
 prog:=P
 w:=w
 K:=K
 mg:=mg
 base:=base
 A:=A.deeper (envOfC qual scope s.heap.objs.size f cd)
 N:=N
 s₀:=s
 H₀:=H
 env:=envOfC qual scope s.heap.objs.size f cd
 outer:=outer
 stack:=envOfC qual scope s.heap.objs.size f cd::outer
 ex:=[]
 calm:=true
 fn:=fun _=>true
 pn:=[]
 xe:=fun e s'=>wpAny (model P w) (A.deeper (envOfC qual scope s.heap.objs.size f cd)) (leaving (envOfC qual scope s.heap.objs.size f cd) e) (fun _ s''=>CX outer H s E e s'') (fun e' s''=>CX outer H s E e' s'') s'
def JA {sc:Scope} {n:Nat} {x:Str} (h:sc.names.lookup x=some .cell):∃c,(cellsFrom n sc.names []).lookup x=some c:=by
 have q:=PySem.W.cellsFrom_some sc.names n [] (.inl h);exact Ew.mp q
def NN {CX:yZ} {P:Program} {w:World} {K:FG} {mg:Str->Option Value} {base:Heap} {N ps:List Str} {qual:Str} {scope:Scope} {f:Addr} {cd:Value} {A:Around} {outer:List Env} {s s1:Shared} {H:Hp} {E:XK} {us:List Value} {vs:List V}
  (S:FnScope N ps scope) (hd:A.handled=none) (e0:Env0 P w K mg base A outer s H) (hl:vs.length=ps.length) (r:Vals vs us)
  (x:InCallC s s.heap.objs.size (bindL (envOfC qual scope s.heap.objs.size f cd).kindOf (ps.zip us) fun _=>none) (cellsFrom (s.heap.objs.size+1) scope.names []) (bindC (envOfC qual scope s.heap.objs.size f cd).kindOf (ps.zip us) fun _=>none) s1):
  Inv (yf CX P w K mg base N qual scope f cd A outer s H E) [] (start N vs) H s1:=by
 have hpl:ps.length<=N.length:=by have:=congrArg List.length S.pre;rw[A5]at this;lia
 obtain⟨h1,tk,rfl,hk⟩:=x.done;have noA:∀b:Addr,b∉(yf CX P w K mg base N qual scope f cd A outer s H E).ex:=fun b z=>absurd (show b∈([]:List Addr) from z) (by simp)
 refine⟨⟨e0.mod,S.kind,rfl,rfl,Nat.le_refl _,fun y z c h1 h2=>?_,fun y hy=>?_,fun y c _ h=>?_,fun _=>hd,Around.frames_deeper e0.frames,.inr ⟨rfl,rfl⟩,fun b z=>absurd z (noA b),e0.bs,e0.bsz,fun b _ _=>noA b,fun b z=>absurd z (noA b),e0.funs,e0.frf⟩,
  rfl,e0.bare,Un.kept hk,⟨_,x.toInCall.ns,fun i y v h1 h2 h3=>?_⟩,fun y c h=>⟨_,x.cell y c h⟩,e0.hok.fresh (Nat.le_refl _),fun y c h=>?_,fun p hp=>absurd (show p∈([]:AL) from hp) (by simp),e0.hok.kept hk,?_⟩
 .exact name_of_addr x.apart (Ca h1) (Ca h2)
 .have hy:scope.names.lookup y=some .cell\/scope.names.lookup y=some .free:=hy
  rcases hy with hy|hy
  .exact JA hy
  .exact absurd rfl (S.nofree _ (Ca hy))
 .exact Cp (x.above y c (Ca h))
 .have hi:i<vs.length:=by
   unfold start at h2
   by_cases hi:i<vs.length
   .exact hi
   .rw[Bk (by simpa using hi)]at h2
    rw[Ex]at h2
    split at h2<;>cases h2
  have ha:vs[i]? =some v:=by
   unfold start at h2;rw[A8 (by simpa using hi),Bl]at h2
   cases e:vs[i]? with
   |none=>rw[e]at h2;cases h2
   |some a=>rw[e]at h2;cases h2;rfl
  obtain⟨u,hu,rv⟩:=r.get ha;have hp:ps[i]? =some y:=by
   rw[<-S.pre,Bv (by lia)];exact h1
  have ndP:ps.Nodup:=by rw[<-S.pre];exact S.nd.sublist (List.take_sublist _ _)
  refine⟨u,rv,?_⟩
  rcases S.par y (Am hp) with k|k
  .exact .inl ⟨k,J8 ndP hp hu k⟩
  .obtain⟨c,e⟩:=JA (n:=s.heap.objs.size+1) k
   refine .inr ⟨.inl k,c,e,?_⟩
   have q:=x.cell y c e;rw[J9 ndP hp hu (by show scope.names.lookup y≠_;rw[k];decide)]at q
   exact q
 .exact e0.hok.fresh (Cp (x.above y c (Ca h)))
 .unfold start
  show _=N.length;rw[An,Ap,B2];lia
def JB {CX:yZ} {P:Program} {w:World} {K:FG} {mg:Str->Option Value} {base:Heap} {k:Nat} {f:Addr} {name qual:Str} {params:Arguments} {body:List Stmt} {scope:Scope} {dV kV doc pm cdv ct oc:Value} {an od:Option Addr}
  {osl:Array (Option Value)} {N ps:List Str} {sp:Sp} (lk:K.lookup f=some ⟨oc,od,.func (PySem.W.fnOf name qual params body scope dV kV doc pm an cdv ct),osl⟩) (hcd:PySem.W.codeIn K cdv qual=true) (S:FnScope N ps scope)
  (len:∀vs H Q E,sp vs H Q E->vs.length=ps.length)
  (hbody:∀(A:Around) (outer:List Env) (s:Shared) (H:Hp) (vs:List V) (Q:VK) (E:XK),Room k (A.deeper (envOfC qual scope s.heap.objs.size f cdv))->sp vs H Q E->
   ∃t,yk (yf CX P w K mg base N qual scope f cdv A outer s H E) body t/\t {nx:=fun _ H'=>Q .non H',rt:=Q} (start N vs) H):
  FnOk P w K mg base CX (k+1) f (PySem.W.fnOf name qual params body scope dV kV doc pm an cdv ct) ps sp:=by
 refine⟨len,fun A outer s H args us vs Q E hr e0 hb r hsp=>?_⟩
 have hl:=len _ _ _ _ hsp;have KX:K.In s.heap:=e0.mod.kin.keeps fun b o e=>(e0.bs b o e).1
 have lim:s.heap.NoLimit:=e0.mod.nolimit.keeps fun b o e=>(e0.bs b o e).1
 have hkind:∀y∈ps.zip us,scope.names.lookup y.1=some .local\/(scope.names.lookup y.1=some .cell/\((cellsFrom (s.heap.objs.size+1) scope.names []).lookup y.1).isSome=true):=fun ⟨n,v⟩ hy=>by
  rcases S.par n (Eu hy).1 with q|q
  .exact .inl q
  .exact .inr ⟨q,PySem.W.cellsFrom_some _ _ _ (.inl q)⟩
 refine codeAny_call_function hr.depth (KX _ _ lk) rfl S.co S.gen rfl (PySem.W.codeRec_of KX hcd) (hb _ _ _ _ ?_)
 refine wpAny_newFunctionEnv_cells S.kind hkind fun env he s1 x=>?_
 subst he
 refine⟨lim.keeps x.toInCall.keep,codeAny_func ?_⟩
 obtain⟨t,ht,hq⟩:=hbody A outer s H vs Q E (hr.deeper _) hsp;have I:Inv (yf CX P w K mg base N qual scope f cdv A outer s H E) [] (start N vs) H s1:=NN S hr.hd e0 hl r x
 refine A7 (ht [] s1 (start N vs) H _ I hq) (fun fl s' hs=>?_) fun e s' hs=>hs
 have fin:∀{σ':St} {H':Hp} {v:V} {u:Value},Inv (yf CX P w K mg base N qual scope f cdv A outer s H E) [] σ' H' s'->RelV v u->Q v H'->CE outer P w H s Q u s':=
  fun {σ' H' v u} J rv q=>⟨v,H',J.os,J.bare,J.base,J.hok,rv,q⟩
 cases fl with
 |ret u=>
  obtain⟨v,σ',H',J,rv,q⟩:=hs;exact fin J rv q
 |next=>
  obtain⟨σ',H',J,q⟩:=hs;exact fin (v:=V.non) (u:=Value.none) J rfl q
 |brk=>
  obtain⟨_,_,_,q⟩:=hs;exact False.elim q
 |cont=>
  obtain⟨_,_,_,q⟩:=hs;exact False.elim q
section
variable {X:Cx} {x:Str} {p pos:Pos} {e:Expr} {es:List Expr} {t:TA} {id T:String} {r:List V->Hp->VK->Prop}
def tCB (r:List V->Hp->VK->Prop) (t:TA):TE:=fun σ H Q=>t σ H fun vs H1=>r vs H1 Q
def NO (hc:CallR X (.builtin id) r) (hg:Gl X x) (hm:X.mg x=none) (hv:bootBuiltins x=some (.builtin id)) (ha:PA X (e::es) t) (hn:x≠"__name__" :=by decide) (hdb:(x==("__debug__" :Str))=false:=by decide)
  (he:SE X e es:=by rfl) (hpl:BA X pos es:=by rfl):PE X (.Call (.Name x p) (e::es) [] pos) (tCB r t):=by
 intro pins s σ H Q I h
 refine C1 (DL I hg hm hv ?_ hn hdb)
 exact PyProof.Rows.callWith_builtin1 (zn (ha pos pins s σ H _ I h) fun us s1 ⟨vs,H1,I1,r1,q1⟩=>hc pins s1 σ H1 vs us Q I1 r1 q1) he hpl
def NP (hc:CallR X (.type T) r) (hg:Gl X x) (hm:X.mg x=none) (hv:bootBuiltins x=some (.type T)) (ha:PA X (e::es) t) (hn:x≠"__name__" :=by decide) (hdb:(x==("__debug__" :Str))=false:=by decide)
  (he:SE X e es:=by rfl) (hpl:BA X pos es:=by rfl):PE X (.Call (.Name x p) (e::es) [] pos) (tCB r t):=by
 intro pins s σ H Q I h
 refine C1 (DL I hg hm hv ?_ hn hdb)
 exact Fp (zn (ha pos pins s σ H _ I h) fun us s1 ⟨vs,H1,I1,r1,q1⟩=>hc pins s1 σ H1 vs us Q I1 r1 q1) he hpl
end
end L2
namespace HT
open PySem PyProof.Rows
section
variable {prog:Program} {w:World} {A:Around} {E:VP} {s:Shared}
noncomputable def sIx (n d:Nat):Option Int->Nat
 |none=>d
 |some v=>if v<0 then (v+(n:Int)).toNat else min v.toNat n
def NQ (n d:Nat) (hd:d<=n) (o:Option Int):sIx n d o<=n:=by
 cases o with
 |none=>exact hd
 |some v=>
  show (if v<0 then (v+(n:Int)).toNat else min v.toNat n)<=n
  by_cases hv:v<0
  .rw[Aa hv];lia
  .rw[Ab hv];exact Nat.min_le_right _ _
def JC (v:Int) (n d:Nat):(if v<0 then max (v+(n:Int)) 0 else min v (n:Int))=((sIx n d (some v):Nat):Int):=by
 show (if v<0 then max (v+(n:Int)) 0 else min v (n:Int))=(((if v<0 then (v+(n:Int)).toNat else min v.toNat n):Nat):Int)
 by_cases hv:v<0
 .simp only[Aa hv];lia
 .simp only[Ab hv];lia
def NR (lo hi:Option Int) (n:Nat):Builtin.Slice.sliceAdjust lo hi 1 (n:Int)=(((sIx n 0 lo:Nat):Int),((sIx n n hi:Nat):Int)):=by
 have h1: ¬((1:Int)<0):=by lia
 unfold Builtin.Slice.sliceAdjust;simp only[h1,C2]
 refine Prod.ext ?_ ?_
 .cases lo with
  |none=>rfl
  |some v=>exact JC v n 0
 .cases hi with
  |none=>rfl
  |some v=>exact JC v n n
def NS (i j:Nat):Builtin.Slice.slicePlaces (i:Int) (j:Int) 1=j-i:=by
 unfold Builtin.Slice.slicePlaces;have h1:(1:Int) > 0:=by lia
 simp only[h1,Cb,Int.ediv_one]
 split<;>lia
def JD {v:Value} {o:Option Int} {Q:Option Int->Shared->Prop} (p:IsPart v o) (h:Q o s):wpAny (model prog w) A (Builtin.Slice.slicePartIndex v) Q E s:=by
 cases p with
 |none=>exact slicePart_none h
 |int i t=>exact slicePart_int h
def NT {sl:Addr} {vl vu:Value} {lo hi:Option Int} {n:Nat} {Q:Int×Int×Nat->Shared->Prop} (hs:s.heap.IsSliceOf sl vl vu .none) (pl:IsPart vl lo) (pu:IsPart vu hi)
  (h:Q (((sIx n 0 lo:Nat):Int),1,sIx n n hi-sIx n 0 lo) s):wpAny (model prog w) A (Builtin.Slice.sliceApplied (.ref sl) (pure (n:Int))) Q E s:=by
 obtain⟨os,hos,hcs,hds⟩:=id hs;unfold Builtin.Slice.sliceApplied Builtin.Slice.sliceFields
 refine Ae (Ae (Df hos hds (x:=vl) rfl (Ae (Df hos hds (x:=vu) rfl (Ae (Df hos hds (x:= .none) rfl (Ai ?_)))))))
 refine Ae (slicePart_none ?_)
 show wpAny _ _ (if ((1:Int)==0)=true then _ else _) _ _ s
 rw[Ab (by decide)]
 refine Ae (JD pl (Ae (JD pu (Ae (Ai ?_)))))
 show wpAny _ _ (match Builtin.Slice.sliceAdjust lo hi 1 (n:Int) with|(lo,hi)=>pure (lo,(1:Int),Builtin.Slice.slicePlaces lo hi 1)) _ _ s
 rw[NR lo hi n];show wpAny _ _ (pure (((sIx n 0 lo:Nat):Int),(1:Int),Builtin.Slice.slicePlaces ((sIx n 0 lo:Nat):Int) ((sIx n n hi:Nat):Int) 1)) _ _ s;rw[NS];exact Ai h
def NU (xs:Array Value) (i k:Nat):((List.range k).filterMap fun (m:Nat)=>xs[((i:Int)+(m:Int)*1).toNat]?).toArray=((xs.toList.drop i).take k).toArray:=by
 have e:(fun (m:Nat)=>xs[((i:Int)+(m:Int)*1).toNat]?)=fun m=>xs[i+m]? :=by
  funext m
  have:((i:Int)+(m:Int)*1).toNat=i+m:=by lia
  rw[this]
 rw[e];have:=pick_run xs i k;rw[List.filterMap_map]at this;have e2:((fun x=>xs[x]?)∘fun x=>i+x)=fun m=>xs[i+m]? :=rfl
 rw[e2]at this;rw[this]
def getItem_tuple_cut {t sl:Addr} {items:Array Value} {vl vu:Value} {lo hi:Option Int} {Q:VP} (ht:IsTup s.heap t items) (hs:s.heap.IsSliceOf sl vl vu .none) (pl:IsPart vl lo) (pu:IsPart vu hi)
  (hw: ¬(sIx items.size 0 lo=0/\sIx items.size items.size hi=items.size))
  (h:Q (.ref s.heap.objs.size) {s with heap:=s.heap.push {cls:= .type "tuple",data:= .seq ((items.toList.drop (sIx items.size 0 lo)).take (sIx items.size items.size hi-sIx items.size 0 lo)).toArray}})
  (hsz:items.size<=sizeLine):wpAny (model prog w) A (getItem (.ref t) (.ref sl)) Q E s:=by
 have htake:sizeOk (.seq ((items.toList.drop (sIx items.size 0 lo)).take (sIx items.size items.size hi-sIx items.size 0 lo)).toArray):=by
  show ((items.toList.drop (sIx items.size 0 lo)).take (sIx items.size items.size hi-sIx items.size 0 lo)).toArray.size<=sizeLine;rw[Al,A5,Cc,Ar];lia
 have hj:sIx items.size items.size hi<=items.size:=NQ _ _ (Nat.le_refl _) hi;obtain⟨os,hos,hcs,hds⟩:=id hs;have hTs:s.TypeIs (.ref sl) "slice" :=⟨os,hos,hcs⟩;unfold getItem
 try with_reducible refine Cy ?_
 first|refine Ae (Ai ?_)|skip
 refine Ae (wpAny_sequenceKey ht.typeIs (by decide) ?_)
 refine Ae (wpAny_callSpecial?_slot (name:=Str.ofString "__getitem__") ht.typeIs Fq
  (wpAny_call_entry Fq ht.typeIs entry_tuple_getitem ?_ (args_tuple_getitem _ _)))
 show wpAny _ _ (Builtin.Tuple.tupleItemsOf (.ref t) >>=_) _ _ s
 refine Ae (tupleItemsOf_ ht ?_)
 refine Ae (wpAny_typeOf hTs ?_)
 rw[Aa (by decide)]
 refine Ae (NT hs pl pu ?_)
 have hno: ¬((((sIx items.size 0 lo:Nat):Int)==0 && (1:Int)==1 && (sIx items.size items.size hi-sIx items.size 0 lo)==items.size)=true):=by
  intro q;rw[As,As]at q;have q1:((sIx items.size 0 lo:Nat):Int)=0:=eq_of_beq q.1.1;have q2:sIx items.size items.size hi-sIx items.size 0 lo=items.size:=eq_of_beq q.2;exact hw ⟨by lia,by lia⟩
 show wpAny _ _ (if (((sIx items.size 0 lo:Nat):Int)==0 && (1:Int)==1 && (sIx items.size items.size hi-sIx items.size 0 lo)==items.size)=true then _ else _) _ _ s
 rw[Ab hno,NU]
 first
  |exact Ae (m:=Builtin.Tuple.tupleExact _) (Dp (Ai ⟨_,rfl,Ai h⟩) htake)
  |exact Ae (m:=Builtin.Tuple.tupleExact _) (Dp (Ae (Ai (Ai ⟨_,rfl,Ai h⟩))) htake)
  |exact Ae (Ae (m:=Builtin.Tuple.tupleExact _) (Dp (Ai (Ai ⟨_,rfl,Ai h⟩)) htake))
  |exact Ae (Ae (m:=Builtin.Tuple.tupleExact _) (Dp (Ai ⟨_,rfl,Ai h⟩) htake))
end
end HT
namespace L2
open PySem PySem.Spec PyProof.Rows
abbrev TO:=St->Hp->(Option Int->Hp->Prop)->Prop
def PO (X:Cx) (e:Option Expr) (t:TO):Prop:=
 ∀(pins:AL) (s:Shared) (σ:St) (H:Hp) (Q:Option Int->Hp->Prop),Inv X pins σ H s->t σ H Q->
  wpAny (model X.prog X.w) X.A (evalPart e X.env) (fun u s'=> ∃o H',Inv X pins σ H' s'/\IsPart u o/\Q o H') X.xe s
def NV:TO:=fun _ H Q=>Q none H
def NW (t:TE):TO:=fun σ H Q=>t σ H fun x H1=> ∃i,x=.int i/\Q (some i) H1
section
variable {X:Cx} {e:Expr} {te:TE} {lo hi:Option Expr} {tl th:TO} {pos p2:Pos}
def NX:PO X none NV:=by
 intro pins s σ H Q I h;rw[evalPart_none];exact Ai ⟨none,H,I,.none,h⟩
def NY (h:PE X e te):PO X (some e) (NW te):=by
 intro pins s σ H Q I hw;rw[evalPart_some]
 refine zn (h pins s σ H _ I hw) fun u s1 ⟨x,H1,I1,r1,q1⟩=>?_
 obtain⟨i,rfl,q⟩:=q1;obtain⟨t,rfl⟩:=r1;exact⟨some i,H1,I1,.int i t,q⟩
def SlR (X:Cx) (r:V->Option Int->Option Int->Hp->VK->Prop):Prop:=
 ∀(pins:AL) (s:Shared) (σ:St) (H:Hp) (x:V) (v vl vu:Value) (lo hi:Option Int) (sl:Addr) (Q:VK),Inv X pins σ H s->RelV x v->s.heap.IsSliceOf sl vl vu .none->IsPart vl lo->IsPart vu hi->r x lo hi H Q->
  ∃T id,typeLookup (.type T) "__getitem__" =pure (some (.builtin id))/\s.TypeIs v T/\wpAny (model X.prog X.w) X.A (getItem v (.ref sl)) (EP X pins σ Q) X.xe s
def SlR.or {r r':V->Option Int->Option Int->Hp->VK->Prop} (h:SlR X r) (h':SlR X r'):SlR X (fun x lo hi H Q=>r x lo hi H Q\/r' x lo hi H Q):=by
 intro pins s σ H x v vl vu lo hi sl Q I rx hs pl pu q
 rcases q with q|q
 .exact h pins s σ H x v vl vu lo hi sl Q I rx hs pl pu q
 .exact h' pins s σ H x v vl vu lo hi sl Q I rx hs pl pu q
def tSl (r:V->Option Int->Option Int->Hp->VK->Prop) (te:TE) (tl th:TO):TE:=fun σ H Q=>te σ H fun x H1=>tl σ H1 fun l H2=>th σ H2 fun u H3=>r x l u H3 Q
theorem NZ {r:V->Option Int->Option Int->Hp->VK->Prop} (hr:SlR X r) (he:PE X e te) (hl:PO X lo tl) (hu:PO X hi th):PE X (.Subscript e (.Slice lo hi none p2) pos) (tSl r te tl th):=by
 intro pins s σ H Q I h
 refine Subscript_ (zn (he pins s σ H _ I h) fun v s1 ⟨x,H1,I1,r1,q1⟩=>?_)
 refine wpAny_Slice (zn (hl pins s1 σ H1 _ I1 q1) fun vl s2 ⟨l,H2,I2,pl,q2⟩=>zn (hu pins s2 σ H2 _ I2 q2) fun vu s3 ⟨u,H3,I3,pu,q3⟩=>?_)
 rw[evalPart_none]
 refine Ai ?_
 have I4:Inv X pins σ H3 {s3 with heap:=s3.heap.push {cls:= .type "slice",data:= .fields #[vl,vu,.none]}}:=I3.kept (t':=s3.toks) fun b ob q=>Ao _ q
 obtain⟨T,id,hT,ht,hg⟩:=hr pins {s3 with heap:=s3.heap.push {cls:= .type "slice",data:= .fields #[vl,vu,.none]}} σ H3 x v vl vu l u s3.heap.objs.size Q I4 r1 (Heap.IsSliceOf.new ..) pl pu q3
 show wpAny (model X.prog X.w) X.A (subscriptTail e (.Slice lo hi none p2) v (.ref s3.heap.objs.size)) (EP X pins σ Q) X.xe {s3 with heap:=s3.heap.push {cls:= .type "slice",data:= .fields #[vl,vu,.none]}}
 exact tail_any (ops:=[.ref s3.heap.objs.size,v]) ht hT hg (by with_unfolding_all rfl)
def cutV (xs:List V) (lo hi:Option Int):List V:=(xs.drop (HT.sIx xs.length 0 lo)).take (HT.sIx xs.length xs.length hi-HT.sIx xs.length 0 lo)
def JE (xs:List V) (lo hi:Option Int):(cutV xs lo hi).length<=xs.length:=by
 unfold cutV;rw[A5,Cc];lia
def rSlT (K:FG):V->Option Int->Option Int->Hp->VK->Prop:=fun x lo hi H Q=> ∃a xs,x=.ref a/\SqT K H a xs/\
 ¬(HT.sIx xs.length 0 lo=0/\HT.sIx xs.length xs.length hi=xs.length)/\∀p,H p=none->Q (.ref p) (zh H p (.tup (cutV xs lo hi)))
def sl_tup:SlR X (rSlT X.K):=by
 intro pins s σ H x v vl vu lo hi sl Q I rx hs pl pu h;obtain⟨a,xs,rfl,hx,hw,q⟩:=h;cases rx;obtain⟨its,r,ht,hz⟩:=I.tuple hx;have hlen:its.toArray.size=xs.length:=by rw[Al];exact r.length.symm
 refine⟨"tuple",_,Fq.lookup,ht.typeIs,?_⟩
 refine HT.getItem_tuple_cut ht hs pl pu (by rw[hlen];exact hw) ?_ (by rw[hlen];exact hz)
 rw[hlen]
 refine⟨.ref s.heap.objs.size,_,I.laid (t':=s.toks) (o:= .tup (cutV xs lo hi)) (fun b ob q=>Ao _ q) (Nat.le_refl _) ?_,rfl,q _ (I.hok.fresh (Nat.le_refl _))⟩
 exact⟨Nat.le_trans (JE xs lo hi) hz,_,(r.drop (HT.sIx xs.length 0 lo)).take (HT.sIx xs.length xs.length hi-HT.sIx xs.length 0 lo),IsTup.new _ _⟩
end
noncomputable def qb (n:Nat) (i:Int):Option Nat:=if 0<=i then (if i<n then some i.toNat else none) else if -(n:Int)<=i then some (i+n).toNat else none
def atI {α:Type} (xs:List α) (i:Int):Option α:=(qb xs.length i).bind fun j=>xs[j]?
def JF {n:Nat} {i:Int} {j:Nat} (h:qb n i=some j):seqIndex? i n=some j/\j<n/\ -(n:Int)<=i/\i<n:=by
 unfold qb at h
 by_cases h0:0<=i
 .rw[Aa h0]at h
  by_cases h1:i<n
  .rw[Aa h1]at h
   have e:i.toNat=j:=Option.some.inj h;exact⟨by rw[seqIndex_of h0 h1,e],by lia,by lia,h1⟩
  .rw[Ab h1]at h;cases h
 .rw[Ab h0]at h
  by_cases h1: -(n:Int)<=i
  .rw[Aa h1]at h
   have e:(i+n).toNat=j:=Option.some.inj h;exact⟨by rw[seqIndex_neg (by lia) h1,e],by lia,h1,by lia⟩
  .rw[Ab h1]at h;cases h
def HB {α:Type} {xs:List α} {i:Int} {v:α} (h:atI xs i=some v):∃j,seqIndex? i xs.length=some j/\xs[j]? =some v/\j<xs.length/\ -(xs.length:Int)<=i/\i<xs.length:=by
 unfold atI at h;cases e:qb xs.length i with
 |none=>rw[e]at h;cases h
 |some j=>
  rw[e]at h;obtain⟨h1,h2,h3,h4⟩:=JF e;exact⟨j,h1,h,h2,h3,h4⟩
def AC {α:Type} {xs:List α} {j:Nat} {v:α} (h:xs[j]? =some v):atI xs (j:Int)=some v:=by
 have hj:j<xs.length:=(Aq.mp h).1;have e:qb xs.length (j:Int)=some j:=by
  unfold qb;rw[Aa (by lia),Aa (by lia)];simp
 unfold atI;rw[e];exact h
def Oa {α:Type} (xs:List α) (v:α):atI (xs++[v]) (-1)=some v:=by
 have hl:(xs++[v]).length=xs.length+1:=by simp
 have e:qb (xs++[v]).length (-1)=some xs.length:=by
  unfold qb;rw[hl,Ab (by decide),Aa (by lia)]
  congr 1
  lia
 unfold atI;rw[e];show (xs++[v])[xs.length]? =some v;simp
def JG (b:Expr):Prop:=∀o i,subscripted b false o i=operate [o,i] (getItem o i)
def IxR (X:Cx) (r:R2):Prop:=
 ∀(value slice:Expr) (pins:AL) (s:Shared) (σ:St) (H:Hp) (x y:V) (v u:Value) (Q:VK),Inv X pins σ H s->RelV x v->RelV y u->r x y H Q->
  subscripted slice false v u=operate [v,u] (getItem v u)->wpAny (model X.prog X.w) X.A (subscriptTail value slice v u) (EP X pins σ Q) X.xe s
def MtR (X:Cx) (id:String) (r:V->List V->Hp->VK->Prop):Prop:=
 ∀(pins:AL) (s:Shared) (σ:St) (H:Hp) (x:V) (xs:List V) (v:Value) (us:List Value) (Q:VK),Inv X pins σ H s->RelV x v->Vals xs us->r x xs H Q->
  wpAny (model X.prog X.w) X.A (call (.builtin id) (v::us)) (EP X pins σ Q) X.xe s
section
variable {X:Cx} {a b:Expr} {ta tb:TE} {pos:Pos}
def IxR.or {r r':R2} (h:IxR X r) (h':IxR X r'):IxR X (fun x y H Q=>r x y H Q\/r' x y H Q):=by
 intro value slice pins s σ H x y v u Q I rx ry q hs
 rcases q with q|q
 .exact h value slice pins s σ H x y v u Q I rx ry q hs
 .exact h' value slice pins s σ H x y v u Q I rx ry q hs
def Ob {r:R2} (hr:IxR X r) (ha:PE X a ta) (hb:PE X b tb) (hs:JG b):PE X (.Subscript a b pos) (tOp r ta tb):=by
 intro pins s σ H Q I h;exact Subscript_ (binT ha hb I h fun v u s2 x y H2 I2 rx ry q=>hr a b pins s2 σ H2 x y v u Q I2 rx ry q (hs _ _))
def rIxL (K:FG):R2:=fun x y H Q=> ∃p xs i v,x=.ref p/\y=.int i/\SqL K H p xs/\atI xs i=some v/\Q v H
def rIxT (K:FG):R2:=fun x y H Q=> ∃p xs i v,x=.ref p/\y=.int i/\SqT K H p xs/\atI xs i=some v/\Q v H
def rIxS:R2:=fun x y H Q=> ∃z i c,x=.str z/\y=.int i/\z.length<=sizeLine/\atI z.cps.toList i=some c/\Q (.str ⟨#[c]⟩) H
def ix_list:IxR X (rIxL X.K):=by
 intro value slice pins s σ H x y v u Q I rx ry h hs;obtain⟨p,xs,i,z,rfl,rfl,hq,he,q⟩:=h;cases rx;obtain⟨t,rfl⟩:=ry;obtain⟨its,r,pl,hz⟩:=I.list hq;obtain⟨j,h1,h2,h3,h4,h5⟩:=HB he;obtain⟨w,ew,rw'⟩:=r.get h2;have hl:=r.length;have hn:=CL;have fin:EP X pins σ Q w s:=⟨z,H,I,rw',q⟩
 by_cases h0:0<=i
 .have hj:i.toNat=j:=by
   rw[seqIndex_of h0 h5]at h1;exact Option.some.inj h1
  exact item_listR pl.isList h0 (by lia) (by rw[hj];simpa using ew) fin hs
 .have hj:(i+(its.toArray.size:Int)).toNat=j:=by
   rw[seqIndex_neg (by lia) h4]at h1
   rw[Al,<-hl];exact Option.some.inj h1
  exact subscriptTail_builtinR (x:=w) pl.isList.typeIs slot_list_getitem.lookup
   (wpAny_getItem_list_neg (Q:=fun r s'=>r=w/\EP X pins σ Q r s') pl.isList (by lia) (by rw[Al]<;>lia) (by lia) (by rw[hj];simpa using ew) ⟨rfl,fin⟩) hs
def ix_tup:IxR X (rIxT X.K):=by
 intro value slice pins s σ H x y v u Q I rx ry h hs;obtain⟨p,xs,i,z,rfl,rfl,hq,he,q⟩:=h;cases rx;obtain⟨t,rfl⟩:=ry;obtain⟨its,r,pl,hz⟩:=I.tuple hq;obtain⟨j,h1,h2,h3,h4,h5⟩:=HB he;obtain⟨w,ew,rw'⟩:=r.get h2;have hl:=r.length;have hn:=CL;have fin:EP X pins σ Q w s:=⟨z,H,I,rw',q⟩;exact subscriptTail_builtinR (x:=w) pl.typeIs slot_tuple_getitem.lookup
  (getItem_tuple (j:=j) (Q:=fun r s'=>r=w/\EP X pins σ Q r s') pl (by lia) (by lia) (by rw[Al,<-hl];exact h1) (by simpa using ew) ⟨rfl,fin⟩) hs
def Oc:IxR X rIxS:=by
 intro value slice pins s σ H x y v u Q I rx ry h hs;obtain⟨z,i,c,rfl,rfl,hz,he,q⟩:=h;obtain⟨t,rfl⟩:=rx;obtain⟨t',rfl⟩:=ry;obtain⟨j,h1,h2,h3,h4,h5⟩:=HB he;have hl:z.cps.toList.length=z.length:=by simp[Str.length]
 rw[hl]at h1 h4 h5;have hn:=CL;exact tail_any (typeIs_str s z t) slot_str_getitem.lookup (getItem_str (c:=c) (by
  have e1:decide (i < -(2 ^ 63:Int))=false:=A6 (by lia)
  have e2:decide (i≥2 ^ 63)=false:=A6 (by lia)
  rw[e1,e2,Bool.or_false]) (by rw[h1];simpa using h2) ⟨.str ⟨#[c]⟩,H,I.tok _,⟨_,rfl⟩,q⟩) hs
def Od (its:List Value) (n j:Nat) (u:Value):Obj.mapSeq (·.setIfInBounds j u) {cls:= .type "list",data:= .seq its.toArray n}={cls:= .type "list",data:= .seq (its.set j u).toArray n}:=by
 simp[Obj.mapSeq]
theorem Inv.lst {pins:AL} {σ:St} {H:Hp} {s:Shared} {p:Addr} {xs:List V} (I:Inv X pins σ H s) (h:H p=some (.lst xs)):
  ∃(its:List Value) (n:Nat),Vals xs its/\s.heap.get? p=some {cls:= .type "list",data:= .seq its.toArray n}/\xs.length<=sizeLine:=by
 obtain⟨z,its,n,r,e⟩:=I.hok p _ h;exact⟨its,n,r,e,z⟩
def Inv.lstUpd {pins:AL} {σ:St} {H:Hp} {s:Shared} {p:Addr} {xs ys:List V} {its its':List Value} {n n':Nat} {f:Obj->Obj} (I:Inv X pins σ H s) (h:H p=some (.lst xs))
  (ho:s.heap.get? p=some {cls:= .type "list",data:= .seq its.toArray n}) (hf:f {cls:= .type "list",data:= .seq its.toArray n}={cls:= .type "list",data:= .seq its'.toArray n'}) (r:Vals ys its') (hz:ys.length<=sizeLine) (t:Nat):
  Inv X pins σ (zh H p (.lst ys)) {s with heap:=s.heap.update p f,toks:=t}:=by
 have e:(s.heap.update p f).get? p=some {cls:= .type "list",data:= .seq its'.toArray n'}:=by
  rw[D7 f ho (by rw[hf]<;>rfl),hf]
 refine I.write (x:=p) (e:=p) (by rw[h];trivial) (.inl rfl) (fun b u hb q=>(Dg _ _ (Av hb)).trans q) ⟨_,e⟩ ?_
 exact⟨hz,its',n',r,e⟩
def HC:V->V->V->Hp->(Hp->Prop)->Prop:=fun o i v H Q=> ∃p xs k j,o=.ref p/\i=.int k/\H p=some (.lst xs)/\qb xs.length k=some j/\Q (zh H p (.lst (xs.set j v)))
def JH:PSet X HC:=by
 intro pins s σ H o i v ov iv u Q I ro ri rv h;obtain⟨p,xs,k,j,rfl,rfl,hp,hj,q⟩:=h;cases ro;obtain⟨t,rfl⟩:=ri;obtain⟨its,n,r,ho,hz⟩:=I.lst hp;obtain⟨h1,h2,h3,h4⟩:=JF hj;have hl:=r.length;have hn:=CL;have I':Inv X pins σ (zh H p (.lst (xs.set j v))) {s with heap:=s.heap.update p (Obj.mapSeq (·.setIfInBounds j u))}:=
  I.lstUpd hp ho (Od its n j u) (r.set rv j) (by rw[Bb];exact hz) s.toks
 by_cases h0:0<=k
 .have hk:k.toNat=j:=by
   rw[seqIndex_of h0 h4]at h1;exact Option.some.inj h1
  exact PySem.W.ki_setAt ho h0 (by lia) (by rw[Al,<-hl];exact h4) (by rw[hk];exact⟨_,I',q⟩)
 .have hk:(k+(its.toArray.size:Int)).toNat=j:=by
   rw[seqIndex_neg (by lia) h3]at h1
   rw[Al,<-hl];exact Option.some.inj h1
  exact PySem.W.ki_setBack ho (by lia) (by rw[Al,<-hl];exact h3) (by lia) (by rw[hk];exact⟨_,I',q⟩)
def Oe (lo hi:Option Int) (n:Nat):(sliceBounds lo hi none n).1=((HT.sIx n 0 lo:Nat):Int)/\(sliceBounds lo hi none n).2.1=((HT.sIx n n hi:Nat):Int)/\(sliceBounds lo hi none n).2.2=1:=by
 refine⟨?_,?_,rfl⟩
 .cases lo with
  |none=>simp[sliceBounds,HT.sIx]
  |some i=>
   simp only[sliceBounds,HT.sIx,Option.getD_none,show (1:Int) > 0 by decide,Cb]
   by_cases h:i<0
   .simp only[h,Cb]<;>lia
   .simp only[h,C2]<;>lia
 .cases hi with
  |none=>simp[sliceBounds,HT.sIx]
  |some i=>
   simp only[sliceBounds,HT.sIx,Option.getD_none,show (1:Int) > 0 by decide,Cb]
   by_cases h:i<0
   .simp only[h,Cb]<;>lia
   .simp only[h,C2]<;>lia
def Of (its:List Value) (lo hi:Option Int):slicePick its.toArray lo hi none=((its.drop (HT.sIx its.length 0 lo)).take (HT.sIx its.length its.length hi-HT.sIx its.length 0 lo)).toArray:=by
 obtain⟨h1,h2,h3⟩:=Oe lo hi its.toArray.size;unfold slicePick;rw[h1,h2,h3];simp only[sliceRange_one,pick_run,Al]<;>rfl
def rSlL (K:FG):V->Option Int->Option Int->Hp->VK->Prop:=fun x lo hi H Q=> ∃a xs,x=.ref a/\SqL K H a xs/\∀p,H p=none->Q (.ref p) (zh H p (.lst (cutV xs lo hi)))
def sl_list:SlR X (rSlL X.K):=by
 intro pins s σ H x v vl vu lo hi sl Q I rx hs pl pu h;obtain⟨a,xs,rfl,hx,q⟩:=h;cases rx;obtain⟨its,r,ht,hz⟩:=I.list hx;have hlen:=r.length
 refine⟨"list",_,slot_list_getitem.lookup,ht.isList.typeIs,?_⟩
 refine wpAny_getItem_list_slice ht.isList hs pl pu .none (by simp) ?_ (by rw[Al]<;>lia)
 rw[Of,<-hlen]
 refine⟨.ref s.heap.objs.size,_,I.laid (t':=s.toks) (o:= .lst (cutV xs lo hi)) (fun b ob q=>Ao _ q) (Nat.le_refl _) ?_,rfl,q _ (I.hok.fresh (Nat.le_refl _))⟩
 exact⟨Nat.le_trans (JE xs lo hi) hz,_,0,(r.drop (HT.sIx xs.length 0 lo)).take (HT.sIx xs.length xs.length hi-HT.sIx xs.length 0 lo),Bn _ rfl⟩
noncomputable def BK:V->Bool
 |.non=>true
 |.bl _=>true
 |.int _=>true
 |.str _=>true
 |_=>false
noncomputable def eqV:V->V->Bool
 |.non,.non=>true
 |.bl a,.bl b=>a==b
 |.bl a,.int b=>(if a then 1 else 0)==b
 |.int a,.bl b=>a==(if b then 1 else 0)
 |.int a,.int b=>a==b
 |.str a,.str b=>a==b
 |_,_=>false
def JI {A:Around} {s:Shared} {y x:V} {u v:Value} (ry:RelV y u) (rx:RelV x v) (fy:BK y=true) (fx:BK x=true):SeqAt.EqAt A s u v (eqV y x):=by
 cases y with
 |non=>
  cases ry;cases x with
  |non=>cases rx;exact SeqAt.EqAt.same _
  |bl b=>cases rx;exact SeqAt.EqAt.none_bool b
  |int b=>obtain⟨t,rfl⟩:=rx;exact SeqAt.EqAt.none_int b t
  |str b=>obtain⟨t,rfl⟩:=rx;exact SeqAt.EqAt.none_str b t
  |_=>exact absurd (show false=true from fx) A2
 |bl a=>
  cases ry;cases x with
  |non=>cases rx;exact SeqAt.EqAt.bool_none a
  |bl b=>cases rx;exact SeqAt.EqAt.bool_bool a b
  |int b=>obtain⟨t,rfl⟩:=rx;exact SeqAt.EqAt.bool_int a b t
  |str b=>obtain⟨t,rfl⟩:=rx;exact SeqAt.EqAt.bool_str a b t
  |_=>exact absurd (show false=true from fx) A2
 |int a=>
  obtain⟨t',rfl⟩:=ry;cases x with
  |non=>cases rx;exact SeqAt.EqAt.int_none a t'
  |bl b=>cases rx;exact SeqAt.EqAt.int_bool a t' b
  |int b=>obtain⟨t,rfl⟩:=rx;exact SeqAt.EqAt.int_int a t' b t
  |str b=>obtain⟨t,rfl⟩:=rx;exact SeqAt.EqAt.int_str a t' b t
  |_=>exact absurd (show false=true from fx) A2
 |str a=>
  obtain⟨t',rfl⟩:=ry;cases x with
  |non=>cases rx;exact SeqAt.EqAt.str_none a t'
  |bl b=>cases rx;exact SeqAt.EqAt.str_bool a t' b
  |int b=>obtain⟨t,rfl⟩:=rx;exact SeqAt.EqAt.str_int a t' b t
  |str b=>obtain⟨t,rfl⟩:=rx;exact SeqAt.EqAt.str_str a t' b t
  |_=>exact absurd (show false=true from fx) A2
 |_=>exact absurd (show false=true from fy) A2
def CallR.or {f:Value} {r r':List V->Hp->VK->Prop} (h:CallR X f r) (h':CallR X f r'):CallR X f (fun xs H Q=>r xs H Q\/r' xs H Q):=by
 intro pins s σ H xs us Q I rs q
 rcases q with q|q
 .exact h pins s σ H xs us Q I rs q
 .exact h' pins s σ H xs us Q I rs q
def Og:CallR X (.type "list") (fun xs H Q=> ∃p ys,xs=[.ref p]/\(SqL X.K H p ys\/SqT X.K H p ys)/\∀l,H l=none->Q (.ref l) (zh H l (.lst ys))):=by
 intro pins s σ H xs us Q I r h;obtain⟨p,ys,rfl,hq,q⟩:=h;obtain⟨u,rfl,rx⟩:=AH r;cases rx;have fin:∀(its:List Value),Vals ys its->ys.length<=sizeLine->∀(h':Heap) (c':Nat),(∀b o',s.heap.get? b=some o'->h'.get? b=some o')->
   h'.get? s.heap.objs.size=some {cls:= .type "list",dict:=none,data:= .seq its.toArray c',slots:= #[]}->EP X pins σ Q (.ref s.heap.objs.size) {s with heap:=h'}:=fun its r' hz h' c' kp e=>
  ⟨.ref s.heap.objs.size,_,I.laid (t':=s.toks) kp (Nat.le_refl _) (show ObjOk X.prog X.w _ h' _ (.lst ys) from ⟨hz,its,c',r',e⟩),rfl,q _ (I.hok.fresh (Nat.le_refl _))⟩
 rcases hq with hq|hq
 .obtain⟨its,r',pl,hz⟩:=I.list hq
  have hlen:=r'.length;obtain⟨o,ho,hc,n,hd⟩:=pl.isList;exact call_list_seq p (.inl rfl) ho hc hd (fun h' c' kp e=>fin its r' hz h' c' kp e) (by simp only[Al]<;>lia)
 .obtain⟨its,r',pl,hz⟩:=I.tuple hq
  have hlen:=r'.length;obtain⟨o,ho,hc,n,hd⟩:=pl;exact call_list_seq p (.inr rfl) ho hc hd (fun h' c' kp e=>fin its r' hz h' c' kp e) (by simp only[Al]<;>lia)
def tyV (K:FG) (T:String) (x:V) (H:Hp):Prop:=match x with
 |.str _=>T="str"
 |.int _=>T="int"
 |.ref p=>(T="list" /\∃xs,SqL K H p xs)\/(T="tuple" /\∃o,K.lookup p=some o/\o.cls=.type "tuple" /\o.dict=none)\/
  (T="dict" /\((∃kvs,H p=some (.dK kvs))\/∃kvs,H p=some (.dT kvs)))\/(T="set" /\∃S n,H p=some (.set S n))
 |_=>False
def JJ {pins:AL} {σ:St} {H:Hp} {s:Shared} {T:String} {x:V} {v:Value} (I:Inv X pins σ H s) (r:RelV x v) (ty:tyV X.K T x H):
  s.TypeIs v T/\∀a,v=.ref a->∃ob,s.heap.get? a=some ob/\ob.dict=none:=by
 cases x with
 |str z=>
  obtain⟨t,rfl⟩:=r;cases (show T="str" from ty)
  exact⟨typeIs_str s z t,fun _ e=>nomatch e⟩
 |int i=>
  obtain⟨t,rfl⟩:=r;cases (show T="int" from ty)
  exact⟨typeIs_int s i t,fun _ e=>nomatch e⟩
 |ref p=>
  cases r
  rcases ty with ⟨rfl,xs,hq⟩|⟨rfl,o,hk,hc,hd⟩|⟨rfl,hk⟩|⟨rfl,S,n,hk⟩
  .obtain⟨its,_,pl,_⟩:=I.list hq
   refine⟨pl.isList.typeIs,fun a e=>?_⟩
   cases e;obtain⟨o,n,e,c,hd,_⟩:=pl;exact⟨o,e,hd⟩
  .refine⟨⟨o,I.kIn p o hk,hc⟩,fun a e=>?_⟩
   cases e;exact⟨o,I.kIn _ o hk,hd⟩
  .have z:∃o,s.heap.get? p=some o/\o.ExactDict:=by
    rcases hk with ⟨kvs,hk⟩|⟨kvs,hk⟩
    .obtain⟨_,_,_,_,o,_,_,e,ex,_⟩:=I.hok p _ hk
     exact⟨o,e,ex⟩
    .obtain⟨_,_,_,_,o,_,_,e,ex,_⟩:=I.hok p _ hk
     exact⟨o,e,ex⟩
   obtain⟨o,e,ex⟩:=z
   refine⟨⟨o,e,ex.1⟩,fun a e2=>?_⟩
   cases e2;exact⟨o,e,ex.2.1⟩
  .obtain⟨o,_,_,_,e,ex,_⟩:=I.hok p _ hk
   refine⟨⟨o,e,ex.1⟩,fun a e2=>?_⟩
   cases e2;exact⟨o,e,ex.2.1⟩
 |_=>exact False.elim ty
def tBM0 (K:FG) (T:String) (r:V->List V->Hp->VK->Prop) (to:TE):TE:=fun σ H Q=>to σ H fun x H1=>tyV K T x H1/\r x [] H1 Q
def tBM (K:FG) (T:String) (r:V->List V->Hp->VK->Prop) (to:TE) (t:TA):TE:=fun σ H Q=>to σ H fun x H1=>tyV K T x H1/\t σ H1 fun xs H2=>r x xs H2 Q
variable {o e:Expr} {es:List Expr} {to:TE} {t:TA} {name:Str} {apos cpos:Pos} {T id:String} {r:V->List V->Hp->VK->Prop}
def Oh (pa:PlainAttrs T) (slot:Slot T name id) (hty:typeOf (.builtin id)=pure (.type "method_descriptor")) (hm:MtR X id r) (ho:PE X o to)
  (hbase:attributeBase o name X.env (eval o X.env)=eval o X.env:=by rfl) (hline:(apos.endLine==cpos.line)=true:=by rfl):PE X (.Call (.Attribute o name apos) [] [] cpos) (tBM0 X.K T r to):=by
 intro pins s σ H Q I h
 refine wpAny_Call_method0_late hbase hline (zn (ho pins s σ H _ I h) fun v s1 ⟨x,H1,I1,r1,ty,q1⟩=>?_)
 obtain⟨h1,h2⟩:=JJ I1 r1 ty;exact⟨T,id,pa,slot,hty,h1,h2,Fs rfl (PySem.evalArgs_none (hm pins s1 σ H1 x [] v [] Q I1 r1 .nil q1))⟩
def Oj (pa:PlainAttrs T) (slot:Slot T name id) (hty:typeOf (.builtin id)=pure (.type "method_descriptor")) (hm:MtR X id r) (ho:PE X o to) (ha:PA X (e::es) t)
  (hbase:attributeBase o name X.env (eval o X.env)=eval o X.env:=by rfl)
  (hfew:((backTo cpos (starEach (e::es) X.env)).all (fun x=> !x.1) && (backToKw cpos (keywordEach [] X.env)).all (fun x=>x.1.isSome)
   && decide ((e::es).length+([]:List Keyword).length+(if ([]:List Keyword).isEmpty then 0 else 1)<30))=true:=by rfl)
  (hline:(apos.endLine==cpos.line)=true:=by rfl) (hs:SE X e es:=by rfl) (hplain:(backTo cpos (starEach es X.env)).any (·.1)=false:=by rfl):
  PE X (.Call (.Attribute o name apos) (e::es) [] cpos) (tBM X.K T r to t):=by
 intro pins s σ H Q I h
 refine wpAny_Call_method_late hbase hfew hline rfl (zn (ho pins s σ H _ I h) fun v s1 ⟨x,H1,I1,r1,ty,q1⟩=>?_)
 obtain⟨h1,h2⟩:=JJ I1 r1 ty
 refine⟨T,id,pa,slot,hty,h1,h2,?_⟩
 have hA:=ha cpos pins s1 σ H1 _ I1 q1;rw[hs]at hA ⊢
 refine Fs (by show (false || (backTo cpos (starEach es X.env)).any (·.1))=false;rw[hplain]<;>rfl) (Ft ?_)
 exact zn hA fun us s2 ⟨vs,H2,I2,r2,q2⟩=>hm pins s2 σ H2 x vs v us Q I2 r1 r2 q2
end
def MtM (X:Cx) (id:String) (r:V->List V->Hp->VK->Prop):Prop:=
 ∀(pins:AL) (s:Shared) (σ:St) (H:Hp) (x:V) (xs:List V) (v:Value) (us:List Value) (Q:VK),Inv X pins σ H s->RelV x v->Vals xs us->r x xs H Q->
  wpAny (model X.prog X.w) X.A (call (.builtin id) (v::us)) (EP X pins σ Q) X.xe s
def Vals.one:∀{x:V} {us:List Value},Vals [x] us->∃u,us=[u]/\RelV x u
 |_,_,.cons r .nil=>⟨_,rfl,r⟩
def Vals.zero:∀{us:List Value},Vals [] us->us=[]
 |_,.nil=>rfl
theorem Vals.dropLast {xs:List V} {us:List Value} (h:Vals xs us):Vals xs.dropLast us.dropLast:=by
 induction h with
 |nil=>exact .nil
 |cons r t ih=>
  cases t with
  |nil=>exact .nil
  |cons q t'=>exact .cons r ih
theorem Vals.rep {xs:List V} {us:List Value} (h:Vals xs us):∀k:Nat,Vals (List.replicate k xs).flatten (List.replicate k us).flatten
 |0=>.nil
 |k+1=>by
  rw[Cj,Cj,B3,B3];exact Vals.append h (Vals.rep h k)
def Ol {α:Type} (l:List α):l.eraseIdx (l.length-1)=l.dropLast:=by
 induction l with
 |nil=>rfl
 |cons a r ih=>
  cases r with
  |nil=>rfl
  |cons b r=>
   have e:(a::b::r).length-1=((b::r).length-1)+1:=by
    have h1:(a::b::r).length=r.length+2:=rfl;have h2:(b::r).length=r.length+1:=rfl;lia
   rw[e,List.eraseIdx_cons_succ,ih]
   all_goals rfl
theorem JK (its:List Value):∀(k:Nat) (acc:List Value),
  List.foldl (fun x1 x2=>x1++x2) acc.toArray (List.replicate k its.toArray)=(acc++(List.replicate k its).flatten).toArray
 |0,acc=>by simp
 |k+1,acc=>by
  have e:acc.toArray++its.toArray=(acc++its).toArray:=by simp
  have e2:(acc++its)++(List.replicate k its).flatten=acc++(List.replicate (k+1) its).flatten:=by
   rw[Cj,B3,Aw]
  rw[<-e2,<-JK its k (acc++its),<-e,Cj,Dh]
section
variable {X:Cx} {pins:AL} {σ:St} {H:Hp} {s:Shared} {l b:Addr} {xs ys zs:List V}
def Inv.lset {its its':List Value} {n:Nat} {f:Array Value->Array Value} {t':Nat} (I:Inv X pins σ H s) (hH:H l=some (.lst xs))
  (e:s.heap.get? l=some {cls:= .type "list",data:= .seq its.toArray n}) (hf:f its.toArray=its'.toArray) (hv:Vals ys its') (hz:ys.length<=sizeLine):
  Inv X pins σ (zh H l (.lst ys)) {s with heap:=s.heap.update l (Obj.mapSeq f),toks:=t'}:=by
 have q:=PySem.IsL.update e f;rw[hf]at q
 refine I.write (x:=l) (e:=l) (by rw[hH];exact trivial) (.inl rfl) (fun b' u hb hu=>(Dg s.heap (Obj.mapSeq f) (Av hb)).trans hu) ⟨_,q⟩ ?_
 exact⟨hz,its',_,hv,q⟩
def Inv.lnew {its:List Value} {t':Nat} (I:Inv X pins σ H s) (hv:Vals ys its) (hz:ys.length<=sizeLine):
  Inv X pins σ (zh H s.heap.objs.size (.lst ys)) {s with heap:=s.heap.push {cls:= .type "list",data:= .seq its.toArray},toks:=t'}:=
 I.laid (fun _ _ q=>Ao _ q) (Nat.le_refl _) ⟨hz,its,0,hv,Bn _ rfl⟩
theorem Inv.fresh (I:Inv X pins σ H s):H s.heap.objs.size=none:=I.hok.fresh (Nat.le_refl _)
def Inv.lstM (I:Inv X pins σ H s) (hH:H l=some (.lst xs)):xs.length<=sizeLine/\∃(its:List Value) (n:Nat),Vals xs its/\xs.length=its.length/\s.heap.get? l=some {cls:= .type "list",data:= .seq its.toArray n}:=by
 obtain⟨z,its,n,r,e⟩:=I.hok l _ hH;exact⟨z,its,n,r,r.length,e⟩
def Om {n:Nat} (h:n<=sizeLine):Builtin.List.listTooLong n=false:=by
 unfold Builtin.List.listTooLong;exact A6 (by lia)
end
section
variable {X:Cx}
def JL:V->List V->Hp->VK->Prop:=fun x vs H Q=> ∃l xs y,x=.ref l/\vs=[y]/\H l=some (.lst xs)/\xs.length<sizeLine/\Q .non (zh H l (.lst (xs++[y])))
def CM:MtM X "list.append" JL:=by
 intro pins s σ H x vs v us Q I rx rv h;obtain⟨l,xs,y,rfl,rfl,hH,hz,q⟩:=h;cases rx;obtain⟨u,rfl,ru⟩:=rv.one;obtain⟨z,its,n,r,hl,e⟩:=I.lstM hH
 refine call_meets F.slot_list_append ⟨_,e,rfl⟩ F.entry_list_append (F.args_list_append_2 _ _) (PySem.list_append l its.toArray n u (by rw[Al];lia)) ⟨e,?_⟩
 refine⟨.non,_,I.lset (its':=its++[u]) hH e (by simp) (r.append (.cons ru .nil)) ?_,rfl,q⟩
 rw[An,D8];lia
def rPop:V->List V->Hp->VK->Prop:=fun x vs H Q=> ∃l xs y,x=.ref l/\vs=[]/\H l=some (.lst xs)/\xs[xs.length-1]? =some y/\Q y (zh H l (.lst xs.dropLast))
def On:MtM X "list.pop" rPop:=by
 intro pins s σ H x vs v us Q I rx rv h;obtain⟨l,xs,y,rfl,rfl,hH,hy,q⟩:=h;cases rx;have hus:=rv.zero;subst hus;obtain⟨z,its,n,r,hl,e⟩:=I.lstM hH;obtain⟨u,hu,ru⟩:=r.get hy;have hy':its.toArray[its.toArray.size-1]? =some u:=by
  show its.toArray[its.length-1]? =some u;rw[<-Ck,<-hl];exact hu
 refine call_meets F.slot_list_pop ⟨_,e,rfl⟩ F.entry_list_pop (F.args_list_pop_1 _) (MeetsSeq.list_pop_last l its.toArray n u hy' (by rw[Al];lia)) ⟨e,?_⟩
 refine⟨y,_,I.lset (its':=its.dropLast) hH e ?_ r.dropLast ?_,ru,q⟩
 .show its.toArray.eraseIdxIfInBounds (its.toArray.size-1)=its.dropLast.toArray
  rw[Al,List.eraseIdxIfInBounds_toArray,Ol]
 .rw[List.length_dropLast]
  lia
def rCat:R2:=fun x y H Q=> ∃l b xs zs,x=.ref l/\y=.ref b/\H l=some (.lst xs)/\H b=some (.lst zs)/\xs.length+zs.length<=sizeLine/\∀p,H p=none->Q (.ref p) (zh H p (.lst (xs++zs)))
def Oo:OpR X (binaryOp .Add) rCat:=by
 intro pins s σ H x y v u Q I rx ry h;obtain⟨l,b,xs,zs,rfl,rfl,hH,hB,hz,q⟩:=h;cases rx;cases ry;obtain⟨z,its,n,r,hl,e⟩:=I.lstM hH;obtain⟨z2,its2,n2,r2,hl2,e2⟩:=I.lstM hB
 refine PySem.P.add_list e e2 ?_ (by rw[Al,Al];lia)
 have ea:its.toArray++its2.toArray=(its++its2).toArray:=by simp
 rw[ea];exact⟨.ref _,_,I.lnew (t':=s.toks) (r.append r2) (by rw[An];lia),rfl,q _ I.fresh⟩
def rRep:R2:=fun x y H Q=> ∃l k xs,x=.ref l/\y=.int k/\H l=some (.lst xs)/\ -(2 ^ 63)<=k/\k<2 ^ 63/\xs.length*k.toNat<=sizeLine/\
 ∀p,H p=none->Q (.ref p) (zh H p (.lst (List.replicate k.toNat xs).flatten))
def Oq {α:Type} (xs:List α) (k:Nat):(List.replicate k xs).flatten.length=k*xs.length:=by
 induction k with
 |zero=>simp
 |succ k ih=>rw[Cj,B3,An,ih,Nat.succ_mul,Nat.add_comm]
def Os:OpR X (binaryOp .Mult) rRep:=by
 intro pins s σ H x y v u Q I rx ry h;obtain⟨l,k,xs,rfl,rfl,hH,h1,h2,hz,q⟩:=h;cases rx;obtain⟨t,rfl⟩:=ry;obtain⟨z,its,n,r,hl,e⟩:=I.lstM hH;have hlen:its.toArray.size*k.toNat<=sizeLine:=by rw[Al,<-hl];exact hz
 have hcap: ¬its.toArray.size*k.toNat > (2 ^ 63-1) / 8:=by
  have:(sizeLine:Nat)<=(2 ^ 63-1) / 8:=by decide
  lia
 have hfit: ¬(!Builtin.List.listFitsIndex k)=true:=by
  rw[fitsIndex_both h1 h2];exact A2
 have hlong: ¬Builtin.List.listTooLong (its.toArray.size*k.toNat)=true:=by
  rw[Om hlen];exact A2
 have hnew:List.foldl (fun x1 x2=>x1++x2) #[] (List.replicate (if its.toArray.isEmpty=true then 0 else k.toNat) its.toArray)=(List.replicate k.toNat its).flatten.toArray:=by
  have f0:∀m:Nat,List.foldl (fun x1 x2=>x1++x2) #[] (List.replicate m its.toArray)=(List.replicate m its).flatten.toArray:=fun m=>by
   have:=JK its m [];rw[B4]at this;exact this
  rw[f0];cases its with
  |nil=>simp
  |cons a r'=>rw[Ab (by simp)]
 refine wpAny_binaryOp_repeat_ref (T:="list") (U:="int") (by decide) ⟨_,e,rfl⟩ (fun s'=>typeIs_int s' k t) noFill_list_mul F.fills_int_mul F.slot_int_rmul repeat_list F.slot_int_index.lookup
  (call_meets F.slot_int_rmul (typeIs_int s k t) F.entry_int_rmul (F.args_int_rmul_2 _ _) (int___rmul___int_list k t l its.toArray n)
   ⟨e,rfl,⟨_,e,rfl⟩,call_meets F.slot_list_mul ⟨_,e,rfl⟩ F.entry_list_mul (F.args_list_mul_2 _ _) (AutoListH.list___mul___list_int_3 l its.toArray n k t hfit hcap hlong) ⟨e,?_⟩⟩)
 rw[hnew];exact⟨.ref _,_,I.lnew (t':=s.toks) (r.rep k.toNat) (by rw[Oq,Nat.mul_comm];exact hz),rfl,q _ I.fresh⟩
end
section
variable {prog:Program} {w:World} {A:Around} {E:VP} {s:Shared}
set_option maxRecDepth 100000 in
end
end L2
namespace Att
open PySem PySem.W PySem.Calls PyProof.Rows
def Ot {P:Params} {h:Heap}:∀(ns:List Int) (vs:List Value),WellAll P h vs (ns.map WData.int)->IntsAre vs ns:=by
 intro ns
 induction ns with
 |nil=>
  intro vs w;rw[Bf]at w;cases w;exact .nil
 |cons n ns ih=>
  intro vs w;rw[Ak]at w;cases w with
  |cons a b=>
   cases a;exact .cons _ _ (ih _ b)
def Ou {l:OpenLaw} {n:Nat} (hn:l.most=some n) {P:Params} {h:Heap} {args:List WData} {vals:List Value}
  (hpre:l.row.toRowW.claim.pre args=true) (hwl:WellAll P h vals args):
  ∃a vs ns,vals=[Value.ref a]/\args=[WData.list (ns.map WData.int)]/\h.get? a=some {cls:= .type "list",data:= .seq vs.toArray}/\IntsAre vs ns/\ns.length<=n:=by
 have hsh:WShape.hasAll [] args [.list .int]=true:=(pre_splitW hpre).1;have hc:l.pre.holds [] {args:=args}=true:=(pre_splitW hpre).2;obtain⟨d,r,rfl,h1,h2⟩:=hasAllW_cons hsh;obtain rfl:=hasAllW_nil h2;obtain⟨xs,rfl,h3⟩:=hasW_list h1;obtain⟨ns,rfl⟩:=items_int h3;have hlen:ns.length<=n:=by
  unfold OpenLaw.pre at hc;have h4:(WTm.not (.lt (.lit (.int (n:Int))) (.len (.arg 0)))).holds [] {args:=[.list (ns.map .int)]}=true:=by
   have h4:=(holds_andW hc).1;rw[hn]at h4;exact h4
  have h5:=condW_of h4 (w_not (w_lt w_lit (w_len_list (w_arg rfl))));rw[Ap]at h5
  refine Nat.le_of_not_lt fun q=>?_
  have q':(n:Int)<((ns.length:Nat):Int):=by lia
  first
   | (rw[Bp q']at h5;exact absurd h5 (by decide))
   | (simp at h5;lia)
 cases hwl with
 |cons w1 w2=>
  cases w2;cases w1 with
  |list ho hall=>exact⟨_,_,ns,rfl,rfl,ho,Ot ns _ hall,hlen⟩
def Ov (l:OpenLaw) (args:List WData):l.row.toRowW.claim.post args (.bool true) args=true:=
 postW_of (r:=l.row.toRowW) (X:=(true==true))
  (show WShape.has [] (.bool true) .bool=true by first|rfl|decide|simp[WShape.has,WShape.arms,WShape.armsAll])
  (show (WTm.eq .res (.lit (.bool true))).value [] {args:=args,res:=some (.bool true),after:=args}=some (.bool (true==true)) from w_eq_bool (w_res rfl) w_lit) rfl
def attach_call {l:OpenLaw} {n:Nat} {q:Program} {loose:List Str} {XP:(Str->Option Value)->Heap->Prop} {YP:World->Heap->Prop} {d:DefRec}
  (hn:l.most=some n) (hdf:d.params.defaults=[])
  (call:∀(w:World) (s₀ s₁:Shared) (mg mb:Str->Option Value) (fa:Addr) (o:Obj) (pm cd doc:Value) (a:Addr) (vs:List Value) (ns:List Int),
   Ground q loose [] XP w s₀ mg mb s₁.heap->YP w s₁.heap->
   s₁.heap.get? fa=some o->o.data=.func (docDef d.name d.params d.body d.scope pm cd doc)->s₁.heap.CodeRec cd d.name->mg d.name=some (.ref fa)->
   s₁.heap.get? a=some {cls:= .type "list",data:= .seq vs.toArray}->IntsAre vs ns->ns.length<=n->s₁.gens= #[]->
   codeAny (model l.prog w) callerA (.call (.ref fa) ⟨[.ref a],[]⟩) (fun r s'=>r=.ok (.ret (.bool true))/\OldK s₁.heap s'.heap/\s'.os=s₁.os/\AllBare s'.gens) s₁):
  WalkO q loose XP YP l.row.toRowW d [] (fun f vs=>PySem.call f vs):=by
 intro w s₀ s₁ mg mb G Y fa o pm cd doc dV kV ho hd hcd hD hmg hg args vals as hpre hlay hrd hwl hlo;obtain rfl:dV=.none:=Dflts.none hD hdf;obtain rfl:kV=.none:=Dflts.noKw hD;obtain⟨a,vs,ns,rfl,rfl,hobj,hints,hlen⟩:=Ou hn hpre hwl
 refine enter_call (Dd (call w s₀ s₁ mg mb fa o pm cd doc a vs ns G Y ho (fd_plain hd) hcd hmg hobj hints hlen hg) fun r s' hq=>?_)
 obtain⟨rfl,h2,h3,h4⟩:=hq;exact⟨.inl ⟨.bool true,.bool true,[],rfl,fun _=>rfl,.bool true,Ov l _,fun _=>⟨List.Pairwise.nil,fun _ hm=>(nomatch hm)⟩⟩,h2,h3,h4⟩
end Att
namespace L2
open PySem PySem.Spec PyProof.Rows
theorem JM:∀{vs:List Value} {ns:List Int},IntsAre vs ns->Vals (ns.map V.int) vs
 |_,_,.nil=>.nil
 |_,_,.cons n t h=>.cons ⟨t,rfl⟩ (JM h)
noncomputable def AJ (s:Stmt) (j:Nat):Stmt:=match s with
 |.ClassDef _ _ _ body _ _ _ _ _ _ _=>body.getD j (.Pass ⟨0,0,0,0⟩)
 |_=> .Pass ⟨0,0,0,0⟩
noncomputable def DU (s:Stmt):Arguments:=match s with
 |.FunctionDef _ a _ _ _ _ _ _ _ _=>a
 |_=>{posonlyargs:=[],args:=[],vararg:=none,kwonlyargs:=[],kw_defaults:=[],kwarg:=none,defaults:=[]}
noncomputable def qH (s:Stmt):List Stmt:=match s with
 |.FunctionDef _ _ b _ _ _ _ _ _ _=>b
 |_=>[]
noncomputable def zC (s:Stmt):Scope:=match s with
 |.FunctionDef _ _ _ _ _ _ sc _ _ _=>sc
 |_=>{kind:= .function,names:=[],isGenerator:=false,isCoroutine:=false}
abbrev E0:XK:=fun _ _ _=>False
structure Fun (K:FG) (x qual:Str) (st:Stmt) (f:Addr) (fd:FuncData):Prop where
 ex:∃(oc:Value) (od:Option Addr) (kV doc pm:Value) (an:Option Addr) (cdv ct:Value) (osl:Array (Option Value)),
  fd=PySem.W.fnOf x qual (DU st) (qH st) (zC st) .none kV doc pm an cdv ct/\K.lookup f=some ⟨oc,od,.func fd,osl⟩/\PySem.W.codeIn K cdv qual=true
 kp:PySem.W.keepIn K (.ref f)=true
section
variable {P:Program} {w:World} {K:FG} {mg:Str->Option Value} {base:Heap}
def Fun.binds {x qual:Str} {st:Stmt} {f:Addr} {fd:FuncData} {ps:List Str} (F:Fun K x qual st f fd)
  (h:∀(kV doc pm:Value) (an:Option Addr) (cdv ct:Value) (us:List Value),us.length=ps.length->bindArgs (PySem.W.fnOf x qual (DU st) (qH st) (zC st) .none kV doc pm an cdv ct) ⟨us,[]⟩=pure (ps.zip us)):Binds K fd ps []:=by
 obtain⟨oc,od,kV,doc,pm,an,cdv,ct,osl,rfl,lk,hcd⟩:=F.ex;exact .all (h kV doc pm an cdv ct)
end
def HD {n:Nat} (h:n<=1000):n<sizeLine:=Nat.lt_of_le_of_lt h (by decide)
section
variable {X:Cx}
def pv (i:Nat) {x:Str} {pos:Pos} (hN:X.N[i]? =some x:=by rfl) (hv:Vis X.env.scope x:=by first|exact Or.inl rfl|exact Or.inr (Or.inl rfl)|exact Or.inr (Or.inr rfl)) (hd:(x==("__debug__" :Str))=false:=by decide)
 (hcd:(x==("__classdict__" :Str))=false:=by decide):PE X (.Name x pos) (yn i):=yS hN hv hd hcd
end
end L2
set_option maxHeartbeats 0
namespace L2
open PySem PySem.Spec PyProof.Rows
noncomputable def yY (X:Cx) (N:List Str) (scope:Scope) (cl:List (Str×Addr)) (C:Addr) (s:Shared) (H:Hp) (ex:List Addr):Cx where
 prog:=X.prog
 w:=X.w
 K:=X.K
 mg:=X.mg
 base:=X.base
 A:=X.A
 N:=N
 s₀:=s
 H₀:=H
 env:=compEnvC scope cl C X.env
 outer:=X.stack
 stack:=X.stack
 ex:=ex
 fn:=fun _=>false
 calm:=X.calm
 pn:=[]
 xe:=fun _ _=>False
theorem HE {env:Env}:∀(names:List (Str×NameKind)) (acc:List (Str×Addr)),(∀y∈names,y.2=.free->∃c,env.cells.lookup y.1=some c)->
  ∃cl,(forIn names acc (fun x cs=>match x with|(name,kind)=>if (kind==NameKind.free)=true then (do let a <-cellOf env name;pure (ForInStep.yield ((name,a)::cs))) else pure (ForInStep.yield cs)):Sem (List (Str×Addr)))=pure cl/\
   (∀p∈cl,p∈acc\/env.cells.lookup p.1=some p.2)/\(∀y∈names,y.2=.free->∃c,(y.1,c)∈cl)/\∀p∈acc,p∈cl
 | [],acc,_=>⟨acc,by rw[List.forIn_nil],fun p hp=>.inl hp,fun _ h=>(nomatch h),fun _ h=>h⟩
 | (n,k)::r,acc,h=>by
  rw[List.forIn_cons]
  by_cases hk:k=.free
  .subst hk
   obtain⟨c,hc⟩:=h (n,.free) Ax rfl;obtain⟨cl,e,h1,h2,h3⟩:=HE r ((n,c)::acc) fun y hy=>h y (A1 _ hy)
   have ec:cellOf env n=pure c:=by unfold cellOf;rw[hc]
   refine⟨cl,?_,fun p hp=>?_,fun y hy hf=>?_,fun p hp=>h3 p (A1 _ hp)⟩
   .simp only[Ey,Cb,ec,pure_bind]
    exact e
   .rcases h1 p hp with q|q
    .rcases Ag.mp q with rfl|q
     .exact .inr hc
     .exact .inl q
    .exact .inr q
   .rcases Ag.mp hy with rfl|hy
    .exact⟨c,h3 _ Ax⟩
    .exact h2 y hy hf
  .obtain⟨cl,e,h1,h2,h3⟩:=HE r acc fun y hy=>h y (A1 _ hy)
   have hb:(k==NameKind.free)=false:=by simpa using hk
   refine⟨cl,?_,h1,fun y hy hf=>?_,h3⟩
   .simp only[hb,Dq,C2,pure_bind]
    exact e
   .rcases Ag.mp hy with rfl|hy
    .exact absurd hf hk
    .exact h2 y hy hf
theorem JN {α:Type}:∀{l:List (Str×α)} {x:Str} {c:α},(x,c)∈l->∃d,l.lookup x=some d
 | (y,e)::r,x,c,h=>by
  rw[Bq];cases hb:x==y with
  |true=>exact⟨e,rfl⟩
  |false=>
   rcases Ag.mp h with q|q
   .cases q;simp at hb
   .exact JN q
def JO {scope:Scope} {env:Env} (h:∀y∈scope.names,y.2=.free->∃c,env.cells.lookup y.1=some c):
  ∃cl,closureFor scope env=pure cl/\(∀x c,cl.lookup x=some c->env.cells.lookup x=some c)/\∀y∈scope.names,y.2=.free->∃c,cl.lookup y.1=some c:=by
 obtain⟨cl,e,h1,h2,_⟩:=HE (env:=env) scope.names [] h
 refine⟨cl,?_,fun x c q=>?_,fun y hy hf=>?_⟩
 .simp only[closureFor]
  rw[e];rfl
 .rcases h1 _ (Ca q) with z|z
  .cases z
  .exact z
 .obtain⟨c,hc⟩:=h2 y hy hf
  exact JN hc
section
variable {prog:Program} {w:World} {A:Around} {R:Result->Shared->Prop} {s:Shared}
def Ow {elt target iter:Expr} {ifs:List Expr} {scope:Scope} {pos:Pos} {it acc:Value} {env:Env} (I:Nat->Shared->Prop)
  (turn:∀n s,I n s->wpAny (model prog w) A (pyNext it) (fun r s₁=>match r with
   |none=>R (.ok .next) s₁
   |some v=>wpAny (model prog w) A (letOwnedTupleGo target it v) (fun _ s₁'=>wpAny (model prog w) A (assign target env v) (fun _ s₂=>
    wpAny (model prog w) A (forIn ifs true fun c r=>if r=true then do let ok <-isTrue c env (eval c env);pure (ForInStep.yield ok) else pure (ForInStep.yield r)) (fun ok s₃=>
     if ok=true then wpAny (model prog w) A (eval elt env) (fun x s₄=>
      wpAny (model prog w) A (call (.builtin "list.append") [acc,x]) (fun _ s₅=> ∃m,m<n/\I m s₅) (fun _ _=>False) s₄) (fun _ _=>False) s₃
     else ∃m,m<n/\I m s₃) (fun _ _=>False) s₂) (fun _ _=>False) s₁') (fun _ _=>False) s₁) (fun _ _=>False) s)
  (n:Nat) (h:I n s):codeAny (model prog w) A (.compLoop (.ListComp elt [⟨target,iter,ifs,0⟩] scope pos) 0 it acc env) R s:=by
 refine codeAny_loop rfl I (fun n s hI=>?_) n h
 show wpAny _ A ((compTurn (.ListComp elt [⟨target,iter,ifs,0⟩] scope pos) 0 it acc env).onRaise (fun x=>do noteFrame x env;theTreesLotGoes x)) _ _ s
 refine wpAny_noted ?_
 rw[compTurn_list]
 refine Ae (wpAny_standAt (Ae (A7 (turn n s hI) (fun r s₁ h₁=>?_) fun _ _ f=>f.elim)))
 cases r with
 |none=>exact Ai h₁
 |some v=>
  refine Ae (A7 h₁ (fun _ s₁' h₁'=>?_) fun _ _ f=>f.elim)
  refine Ae (A7 h₁' (fun _ s₂ h₂=>Ae (A7 h₂ (fun ok s₃ h₃=>?_) fun _ _ f=>f.elim)) fun _ _ f=>f.elim)
  cases ok with
  |false=>exact Ai ⟨rfl,h₃⟩
  |true=>
   exact Ae (Ae (A7 h₃ (fun x s₄ h₄=>Ae (A7 h₄ (fun _ s₅ h₅=>Ai (Ai ⟨rfl,h₅⟩)) fun _ _ f=>f.elim)) fun _ _ f=>f.elim))
end
noncomputable def cst (k:Nat) (fr:List Nat) (σ:St):St:=List.replicate k none++fr.map fun j=>(σ[j]?).join
structure CompScope (X:Cx) (loc free:List Str) (fr:List Nat) (scope:Scope):Prop where
 kind:scope.kind=.function
 cell:∀y∈scope.names,y.2≠ .cell
 names:∀y∈scope.names,y.2=.local->scope.names.lookup y.1=some .local
 frees:∀y∈scope.names,y.2=.free->X.env.kindOf y.1=some .cell\/X.env.kindOf y.1=some .free
 at_:∀(i j:Nat) (x:Str),fr[i]? =some j->free[i]? =some x->X.N[j]? =some x/\scope.names.lookup x=some .free
 len:fr.length=free.length
theorem JP {env:Env}:∀{names:List (Str×NameKind)} {x:Str},(∀y∈names,y.2≠ .cell)->
    ((names.map fun (n,k)=>if (k==NameKind.free && env.scope.kind== .function && env.kindOf n==some .cell) then (n,NameKind.cell) else (n,k)).lookup x=some .cell\/
     (names.map fun (n,k)=>if (k==NameKind.free && env.scope.kind== .function && env.kindOf n==some .cell) then (n,NameKind.cell) else (n,k)).lookup x=some .free)->names.lookup x=some .free
  | [],_,_,h=>by simp at h
  | (n,k)::r,x,hc,h=>by
    have ih:= @JP env r x fun y hy=>hc y (A1 _ hy)
    rw[Ak]at h;rw[Bq];cases hx:x==n with
    |true=>
      have hk:k≠ .cell:=hc (n,k) Ax;dsimp only at h ⊢
      by_cases hb:(k==NameKind.free && env.scope.kind== .function && env.kindOf n==some .cell)=true
      · have:k=.free:=by
          rw[As,As]at hb;simpa using hb.1.1
        rw[this]
      · rw[Ab hb,Bq,hx]at h
        rcases h with h|h
        · have:k=.cell:=Option.some.inj h
          exact absurd this hk
        · exact h
    |false=>
      dsimp only at h ⊢
      refine ih ?_
      by_cases hb:(k==NameKind.free && env.scope.kind== .function && env.kindOf n==some .cell)=true
      · rw[Aa hb,Bq,hx]at h;exact h
      · rw[Ab hb,Bq,hx]at h;exact h
theorem JQ {env:Env}:∀{names:List (Str×NameKind)} {x:Str},names.lookup x=some .free->
    ((names.map fun (n,k)=>if (k==NameKind.free && env.scope.kind== .function && env.kindOf n==some .cell) then (n,NameKind.cell) else (n,k)).lookup x=some .cell\/
     (names.map fun (n,k)=>if (k==NameKind.free && env.scope.kind== .function && env.kindOf n==some .cell) then (n,NameKind.cell) else (n,k)).lookup x=some .free)
  | [],_,h=>by simp at h
  | (n,k)::r,x,h=>by
    have ih:= @JQ env r x;rw[Ak];rw[Bq]at h;cases hx:x==n with
    |true=>
      rw[hx]at h;have hk:k=.free:=Option.some.inj h;subst hk;dsimp only
      by_cases hb:(NameKind.free==NameKind.free && env.scope.kind== .function && env.kindOf n==some .cell)=true
      · rw[Aa hb,Bq,hx];exact .inl rfl
      · rw[Ab hb,Bq,hx];exact .inr rfl
    |false=>
      rw[hx]at h;have:=ih h;dsimp only
      by_cases hb:(k==NameKind.free && env.scope.kind== .function && env.kindOf n==some .cell)=true
      · rw[Aa hb,Bq,hx];exact this
      · rw[Ab hb,Bq,hx];exact this
section
variable {X:Cx} {pins:AL} {σ:St} {H:Hp} {s:Shared}
def Ox {loc free:List Str} {fr:List Nat} {scope:Scope} {cl:List (Str×Addr)} {h1:Heap} {t1:Nat} {fp:List Addr} (S:CompScope X loc free fr scope) (I:Inv X pins σ H s)
  (hc1:∀x c,cl.lookup x=some c->X.env.cells.lookup x=some c) (hc2:∀y∈scope.names,y.2=.free->∃c,cl.lookup y.1=some c)
  (hns:h1.Ns s.heap.objs.size (fun _=>none)) (hk:∀b o,s.heap.get? b=some o->h1.get? b=some o)
  (hfp:∀b∈fp,yB X pins H b) (hfo:∀b∈fp,∃o,s.heap.get? b=some o):
  Inv (yY X (loc++free) scope cl s.heap.objs.size s H fp) [] (cst loc.length fr σ) H {s with heap:=h1,toks:=t1}:=by
 have fpb:∀b∈fp,b<s.heap.objs.size:=fun b hb=>let ⟨o,e⟩:=hfo b hb;Aj e
 refine⟨⟨I.ok.mod,S.kind,I.ok.glob,I.ok.blt,Nat.le_refl _,fun x y c e1 e2=>I.ok.inj x y c (hc1 _ _ e1) (hc1 _ _ e2),fun x hx=>?_,fun x c f=>(nomatch f),I.ok.hd,I.ok.frames,.inl rfl,fun b hb=>?_,I.bs,Nat.le_trans I.ok.bsz I.sz,fun b o e hb=>?_,fun b hb z=>?_,I.stack,I.stkFree⟩,
  rfl,I.bare,Un.kept hk,⟨_,hns,fun i x v e1 e2 e3=>?_⟩,fun x c e=>?_,I.hok.fresh (Nat.le_refl _),fun x c e=>I.freeC x c (hc1 x c e),fun p hp=>absurd (show p∈([]:AL) from hp) (by simp),I.hok.kept hk,?_⟩
 .have q:scope.names.lookup x=some .free:=JP S.cell hx
  exact hc2 (x,.free) (Ca q) rfl
 .exact⟨Au (fpb b hb),fun x c e=>(hfp b hb).2.2.2.2.1 x c (hc1 x c e)⟩
 .rcases (hfp b hb).2.2.2.1 with z|z
  .exact I.ok.noex b o e z
  .exact absurd (Az (Aj e) (Nat.le_trans I.ok.bsz z)) (B6 _)
 .rcases Ag.mp (I.stkSub b z) with e|e
  .exact (hfp b hb).2.1 e
  .exact (hfp b hb).2.2.1 e
 .have e1':(loc++free)[i]? =some x:=e1
  unfold cst at e2
  by_cases hi:i<loc.length
  .rw[A8 (by simpa using hi),Ex]at e2
   rw[Aa hi]at e2;cases e2
  .have hi':loc.length<=i:=Nat.le_of_not_lt hi
   rw[Bk (by simpa using hi'),B2,Bl]at e2
   rw[Bk hi']at e1';cases hj:fr[i-loc.length]? with
   |none=>rw[hj]at e2;cases e2
   |some j=>
    rw[hj]at e2;have e2':(σ[j]?).join=some v:=Option.some.inj e2;obtain⟨n1,n2⟩:=S.at_ _ j x hj e1';have e4:σ[j]? =some (some v):=by
     cases q:σ[j]? with
     |none=>rw[q]at e2';cases e2'
     |some z=>rw[q]at e2';exact congrArg some e2'
    have kf:=S.frees (x,.free) (Ca n2) rfl;obtain⟨m,hn,hl⟩:=I.loc;obtain⟨u,r,l⟩:=hl j x v n1 e4 (kf.elim (fun z=>.inr (.inl z)) fun z=>.inr (.inr z))
    refine⟨u,r,.inr ⟨JQ n2,?_⟩⟩
    obtain⟨c,hc⟩:=hc2 (x,.free) (Ca n2) rfl;have hcx:=hc1 x c hc
    rcases l with ⟨hk',_⟩|⟨_,c',hc',hcell⟩
    .rcases kf with z|z<;>(rw[hk']at z;cases z)
    .rw[hcx]at hc'
     cases hc';obtain⟨o,ho,hd⟩:=hcell;exact⟨c,hc,o,hk _ _ ho,hd⟩
 .obtain⟨v,o,ho,hd⟩:=I.cell x c (hc1 x c e)
  exact⟨v,o,hk _ _ ho,hd⟩
 .show (cst loc.length fr σ).length=(loc++free).length
  unfold cst;rw[An,B2,Ap,An,S.len]
abbrev Oy (J:It) (g:TG) (tc:TT) (te:TE) (σ0:St) (H:Hp) (Q:VK) (D:Addr):Prop:=
 ∃W:Nat->Nat->List V->St->Hp->Prop,(∃m,W 0 m [] σ0 (zh H D (.lst [])))/\∀i m acc σ' H',W i m acc σ' H'->H' D=some (.lst acc)/\
  ((J.stop i H'/\Q (.ref D) H')\/(J.go i H'/\∃N:List V->St->Hp->Prop,(∀acc' σ3 H5,N acc' σ3 H5->∃m',m' < m/\W (i+1) m' acc' σ3 H5)/\∀x H2,J.yld i H' x H2->g x σ' H2 fun σ3 H3=>tc σ3 H3 fun b H4=>
   if b=true then te σ3 H4 fun v H5=>H5 D=some (.lst acc)/\acc.length<sizeLine/\N (acc++[v]) σ3 (zh H5 D (.lst (acc++[v])))
   else N acc σ3 H4))
def Gq (wi:TI) (k:Nat) (fr:List Nat) (g:TG) (tc:TT) (te:TE):TE:=fun σ H Q=>wi σ H fun J H1=> ∀D,H1 D=none->Oy J g tc te (cst k fr σ) H1 Q D
def Oz:TT:=fun _ H Q=>Q true H
def PTs (X:Cx) (ifs:List Expr) (t:TT):Prop:=
 ∀(pins:AL) (s:Shared) (σ:St) (H:Hp) (Q:Bool->Hp->Prop),Inv X pins σ H s->t σ H Q->
  wpAny (model X.prog X.w) X.A (forIn ifs true fun c r=>if r=true then do let ok <-isTrue c X.env (eval c X.env);pure (ForInStep.yield ok) else pure (ForInStep.yield r)) (TP X pins σ Q) X.xe s
def O0:PTs X [] Oz:=fun pins s σ H Q I h=>wpAny_tests_nil ⟨H,I,h⟩
structure CompEnd (X:Cx) (pins:AL) (σ:St) (Q:VK) (D C:Addr) (s6:Shared):Prop where
 inv:∃H5,Inv X pins σ H5 s6/\H5 C=none/\Q (.ref D) H5
 ns:∃m,s6.heap.Ns C m
 neL:C≠X.env.locals
 nfs:C∉X.fs
 new:X.s₀.heap.objs.size<=C
 cel:∀x c,X.env.cells.lookup x=some c->c≠C
 pin:∀p∈X.pn++pins,p.1≠C
def JR {elt tg iter:Expr} {ifs:List Expr} {loc free:List Str} {fr:List Nat} {scope:Scope} {pos:Pos} {wi:TI} {g:TG} {tc:TT} {te:TE} (hc:X.calm=true) (S:CompScope X loc free fr scope) (hi:PI X tg iter wi)
  (hg:∀cl C s H ex,PG (yY X (loc++free) scope cl C s H ex) tg g) (ht:∀cl C s H ex,PTs (yY X (loc++free) scope cl C s H ex) ifs tc) (he:∀cl C s H ex,PE (yY X (loc++free) scope cl C s H ex) elt te)
  (I:Inv X pins σ H s) {Q:VK} (h:Gq wi loc.length fr g tc te σ H Q) {cl:List (Str×Addr)} (hc1:∀x c,cl.lookup x=some c->X.env.cells.lookup x=some c) (hc2:∀y∈scope.names,y.2=.free->∃c,cl.lookup y.1=some c)
  {RR:Value->Addr->Result->Shared->Prop} (hRR:∀D C s6,CompEnd X pins σ Q D C s6->RR (.ref D) C (.ok .next) s6):
  wpAny (model X.prog X.w) X.A (eval iter X.env) (fun x s1=>wpAny (model X.prog X.w) X.A (pyIter x) (fun it s2=>wpAny (model X.prog X.w) X.A (newList []) (fun acc s3=>
   wpAny (model X.prog X.w) X.A (newFunctionEnv scope X.env.globals cl [] X.env.qual none .none (some X.env)) (fun cenv s4=>
    codeAny (model X.prog X.w) X.A (.compStart (.ListComp elt [⟨tg,iter,ifs,0⟩] scope pos) 0 it acc {cenv with scope:=relabel scope X.env}) (RR acc cenv.locals) s4) X.xe s3) X.xe s2) X.xe s1) X.xe s:=by
 refine zn (hi pins s σ H _ I h) fun v s1 h1=>zn h1 fun itv s2 h2=>?_
 obtain⟨it,fp,tn,J,H2,e,I2,T,st2,f2,q2⟩:=h2;subst e;have hD:H2 s2.heap.objs.size=none:=I2.hok.fresh (Nat.le_refl _);obtain⟨W,⟨m0,w0⟩,turn⟩:=q2 s2.heap.objs.size hD
 refine Dp ?_
 generalize hs3:({s2 with heap:=s2.heap.push {cls:= .type "list",dict:=none,data:= .seq ([]:List Value).toArray}}:Shared)=s3
 have I3:Inv X pins σ (zh H2 s2.heap.objs.size (.lst [])) s3:=by
  rw[<-hs3];exact I2.lnew (its:=[]) (t':=s2.toks) .nil (B9 _)
 have k23:∀b o,s2.heap.get? b=some o->s3.heap.get? b=some o:=fun b o q=>by rw[<-hs3];exact Ao _ q
 have f3:∀b∈fp,yB X pins (zh H2 s2.heap.objs.size (.lst [])) b:=fun b hb=>by
  obtain⟨o,e,_⟩:=T.obj _ _ st2 b hb;exact⟨by rw[zj (Au (Aj e))];exact (f2 b hb).1,(f2 b hb).2⟩
 have o3:∀b∈fp,∃o,s3.heap.get? b=some o:=fun b hb=>let ⟨o,e,_⟩:=T.obj _ _ st2 b hb;⟨o,k23 b o e⟩
 have st3:tn 0 s3.heap:=T.keep _ _ _ st2 fun b _ o e=>k23 b o e
 refine wpAny_newFunctionEnv S.cell (by intro y hy;simp at hy) (fun h4 hns hsb=>?_) S.kind
 try dsimp only at hns hsb ⊢
 have k34:∀b o,s3.heap.get? b=some o->h4.get? b=some o:=fun b o q=>hsb.extBut b o (Au (Aj q)) (Ao _ q)
 have I4:=Ox (t1:=s3.toks+([]:List (Str×Value)).length) S I3 hc1 hc2 hns k34 f3 o3;have hgC:=hg cl s3.heap.objs.size s3 (zh H2 s2.heap.objs.size (.lst [])) fp;have htC:=ht cl s3.heap.objs.size s3 (zh H2 s2.heap.objs.size (.lst [])) fp;have heC:=he cl s3.heap.objs.size s3 (zh H2 s2.heap.objs.size (.lst [])) fp;have st4:tn 0 h4:=T.keep _ _ _ st3 fun b _ o e=>k34 b o e
 generalize hY:yY X (loc++free) scope cl s3.heap.objs.size s3 (zh H2 s2.heap.objs.size (.lst [])) fp=Y at I4 hgC htC heC;have fY:∀{H':Hp},(∀b∈fp,H' b=none)->∀b∈fp,yB Y [] H' b:=fun hn b hb=>by
  subst hY
  refine⟨hn b hb,?_,fun z=>?_,.inl hb,fun x c e=>(f3 b hb).2.2.2.2.1 x c (hc1 x c e),fun p hp=>absurd (show p∈([]:AL) from hp) (by simp)⟩
  .obtain⟨o,e⟩:=o3 b hb
   exact Au (Aj e)
  .rcases Ag.mp (I3.stkSub b z) with e|e
   .exact (f3 b hb).2.1 e
   .exact (f3 b hb).2.2.1 e
 have hYp:Y.prog=X.prog:=by rw[<-hY];rfl
 have hYw:Y.w=X.w:=by rw[<-hY];rfl
 have hYK:Y.K=X.K:=by rw[<-hY];rfl
 have hYA:Y.A=X.A:=by rw[<-hY];rfl
 have hYe:Y.env=compEnvC scope cl s3.heap.objs.size X.env:=by rw[<-hY];rfl
 have hYx:Y.xe=fun _ _=>False:=by rw[<-hY];rfl
 have hYc:Y.calm=true:=by rw[<-hY];exact hc
 have loop:codeAny (model X.prog X.w) X.A (.compLoop (.ListComp elt [⟨tg,iter,ifs,0⟩] scope pos) 0 (.ref it) (.ref s2.heap.objs.size) (compEnvC scope cl s3.heap.objs.size X.env))
   (RR (.ref s2.heap.objs.size) s3.heap.objs.size) {s3 with heap:=h4,toks:=s3.toks+([]:List (Str×Value)).length}:=by
  refine Ow (fun n s'=> ∃i acc σ' H',Inv Y [] σ' H' s'/\tn i s'.heap/\(∀b∈fp,H' b=none)/\W i n acc σ' H') ?_ m0 ⟨0,[],_,_,I4,st4,fun b hb=>(f3 b hb).1,w0⟩
  rintro n s5 ⟨i,acc,σ5,H5,I5,st5,fr5,w5⟩;obtain⟨hacc,turn5⟩:=turn i n acc σ5 H5 w5
  rcases turn5 with ⟨stop,qn⟩|⟨go,N,hN,step⟩
  .have d:=T.done Y hYp hYw hYK hYc i [] s5 σ5 H5 (fun _ _=>False) I5 (fY fr5) st5 stop
   rw[hYA]at d
   refine zn d fun r s6 ⟨hr,I6⟩=>?_
   subst hr;obtain⟨m,hn,_⟩:=id I6.loc;rw[hYe]at hn;have fC:H5 s3.heap.objs.size=none:=by
    have:=I6.free;rw[hYe]at this;exact this
   have hok6:HOk X.prog X.w H5 s6.heap:=by
    have:=I6.hok;rw[hYp,hYw]at this;exact this
   have un6:Un (z6 X.stack) fp (zh H2 s2.heap.objs.size (.lst [])) H5 s3.heap s6.heap:=by
    have:=I6.base;subst hY;exact this
   have os6:s6.os=s3.os:=by
    have:=I6.os;subst hY;exact this
   have IX:Inv X pins σ H5 s6:=I3.call' (ch:=fp) os6 un6 hok6 I6.bare fun b hb=>⟨(f3 b hb).2.2.2.1,(f3 b hb).2.1,(f3 b hb).2.2.2.2.1,(f3 b hb).2.2.2.2.2⟩
   refine hRR _ _ s6 ⟨⟨H5,IX,fC,qn⟩,⟨m,hn⟩,Cz I3.lt,I3.nofs (Nat.le_refl _),I3.sz,fun x c e z=>?_,fun p hp z=>?_⟩
   .obtain⟨v,q⟩:=I3.cell x c e
    exact absurd q.lt (by rw[z];exact B6 _)
   .exact absurd (Aj (I3.pin p hp).1) (by rw[z];exact B6 _)
  .have d:=T.item Y hYp hYw hYK hYc i [] s5 σ5 H5 (fun _ _=>False) I5 (fY fr5) st5 go
   rw[hYA]at d
   refine zn d fun r s6 ⟨u,hr,h6⟩=>?_
   subst hr
   refine zn h6 fun _ s7 ⟨x,H7,I7,r7,y7,st7,fr7⟩=>?_
   have I7':=I7.pinned (fY fr7) (T.obj _ _ st7);have g7:=hgC _ s7 σ5 H7 x u _ I7' r7 (step x H7 y7);rw[hYp,hYw,hYA,hYe,hYx]at g7
   refine zn g7 fun _ s8 ⟨σ8,H8,I8,q8⟩=>?_
   have t8:=htC _ s8 σ8 H8 _ I8 q8;rw[hYp,hYw,hYA,hYe,hYx]at t8;have back:∀{σ9:St} {H9:Hp} {s9:Shared} {acc':List V},Inv Y ([]++DO fp s7.heap) σ9 H9 s9->N acc' σ9 H9->∃m,m<n/\∃i acc σ' H',Inv Y [] σ' H' s9/\tn i s9.heap/\(∀b∈fp,H' b=none)/\W i m acc σ' H':=fun {σ9 H9 s9 acc'} I9 w9=>by
    obtain⟨m',hm,w9⟩:=hN _ _ _ w9
    refine⟨m',hm,i+1,acc',σ9,H9,I9.unpinned,T.keep _ _ _ st7 fun b hb o e=>(I9.pin (b,o) (Bj _ (Bj _ (Gj hb e)))).1,fun b hb=>?_,w9⟩
    obtain⟨o,e,d⟩:=T.obj _ _ st7 b hb;exact (I9.pin (b,o) (Bj _ (Bj _ (Gj hb e)))).2.1
   refine zn t8 fun ok s9 ⟨H9,I9,q9⟩=>?_
   cases ok with
   |false=>
    rw[Ab (by simp)]at q9 ⊢
    exact back I9 q9
   |true=>
    rw[Aa rfl]at q9 ⊢;have e9:=heC _ s9 σ8 H9 _ I9 q9;rw[hYp,hYw,hYA,hYe,hYx]at e9
    refine zn e9 fun y s10 ⟨z,H10,I10,r10,hacc10,hlen,w10⟩=>?_
    have a10:=CM (X:=Y) _ s10 σ8 H10 (.ref s2.heap.objs.size) [z] (.ref s2.heap.objs.size) [y] (fun _ H'=>N (acc++[z]) σ8 H') I10 rfl (.cons r10 .nil) ⟨_,_,z,rfl,rfl,hacc10,hlen,w10⟩
    rw[hYp,hYw,hYA,hYx]at a10;exact zn a10 fun _ s11 ⟨_,H11,I11,_,w11⟩=>back I11 w11
 exact codeAny_compStart_list loop (T.self X.A 0 _ _ _ st4 loop)
def O1 {elt tg iter:Expr} {ifs:List Expr} {loc free:List Str} {fr:List Nat} {scope:Scope} {pos:Pos} {wi:TI} {g:TG} {tc:TT} {te:TE} (hc:X.calm=true) (S:CompScope X loc free fr scope) (hi:PI X tg iter wi)
  (hg:∀cl C s H ex,PG (yY X (loc++free) scope cl C s H ex) tg g) (ht:∀cl C s H ex,PTs (yY X (loc++free) scope cl C s H ex) ifs tc) (he:∀cl C s H ex,PE (yY X (loc++free) scope cl C s H ex) elt te)
  (hs:∀x,foldedSetIterable iter X.env x=pure x:=by intro _;rfl):PE X (.ListComp elt [⟨tg,iter,ifs,0⟩] scope pos) (Gq wi loc.length fr g tc te):=by
 intro pins s σ H Q I h;rw[eval_ListComp];obtain⟨cl,hcl,hc1,hc2⟩:=JO (scope:=scope) (env:=X.env) fun y hy hf=>I.ok.has y.1 (S.frees y hy hf)
 refine wpAny_comprehension_free (use:=none) rfl hs hcl S.kind S.names ?_
 refine JR (RR:=fun acc C=>compPost (model X.prog X.w) X.A X.xe none (EP X pins σ Q) acc C) hc S hi hg ht he I h hc1 hc2 fun D C s6 ce=>?_
 obtain⟨H5,IX,fC,q⟩:=ce.inv;obtain⟨m,hn⟩:=ce.ns;exact⟨m,hn,fun h7 hs7=>⟨.ref D,H5,IX.turned (t':=s6.toks) (fun b o hb e=>hs7.extBut b o hb e) fC ce.neL (.inr ce.new) ce.cel ce.pin,rfl,q⟩⟩
def O2 {i:Nat} {y:Str} {py:Pos} {spos:Pos} {elt tg iter:Expr} {ifs:List Expr} {loc free:List Str} {fr:List Nat} {scope:Scope} {pos:Pos} {wi:TI} {g:TG} {tc:TT} {te:TE} (hN:X.N.Nodup) (hi':X.N[i]? =some y) (hx:X.env.scope.names.lookup y=some .local)
  (hc:X.calm=true) (S:CompScope X loc free fr scope) (hi:PI X tg iter wi)
  (hg:∀cl C s H ex,PG (yY X (loc++free) scope cl C s H ex) tg g) (ht:∀cl C s H ex,PTs (yY X (loc++free) scope cl C s H ex) ifs tc) (he:∀cl C s H ex,PE (yY X (loc++free) scope cl C s H ex) elt te)
  (hs:∀x,foldedSetIterable iter X.env x=pure x:=by intro _;rfl)
  (hsw:swapsWith (.ListComp elt [⟨tg,iter,ifs,0⟩] scope pos) (some (.Name y py)) spos.line X.env=pure true:=by rfl):
  PS X (.Assign [.Name y py] (.ListComp elt [⟨tg,iter,ifs,0⟩] scope pos) spos) (tAsg (Gq wi loc.length fr g tc te) (DN i)):=by
 intro pins s σ H D I h;obtain⟨cl,hcl,hc1,hc2⟩:=JO (scope:=scope) (env:=X.env) fun y hy hf=>I.ok.has y.1 (S.frees y hy hf)
 rw[exec_Assign_Name_used _ _ _ _ hsw]
 refine Ae (wpAny_standAt (Ae ?_))
 show wpAny _ X.A (do let _ <-comprehension (.ListComp elt [⟨tg,iter,ifs,0⟩] scope pos) scope X.env _ (newList []) false (eval iter X.env) (some (assign (.Name y py) X.env))) _ _ s
 refine Ae (A7 (wpAny_comprehension_free (use:=some (assign (.Name y py) X.env)) (Q:=fun _ s'=>SP X pins D .next s') rfl hs hcl S.kind S.names ?_) (fun _ s' hq=>Ai (Ai hq)) fun _ _ e=>e)
 refine JR (RR:=fun acc C=>compPost (model X.prog X.w) X.A X.xe (some (assign (.Name y py) X.env)) (fun _ s'=>SP X pins D .next s') acc C) hc S hi hg ht he I h hc1 hc2 fun L C s6 ce=>?_
 obtain⟨H5,IX,fC,q⟩:=ce.inv;obtain⟨m,oC,es,ep,ho,hd,hk⟩:=ce.ns;show wpAny _ X.A (assign (.Name y py) X.env (.ref L)) _ _ s6;have IP:Inv X (pins++[(C,oC)]) σ H5 s6:=IX.pins_of fun p hp=>(Bi.mp hp).elim (fun z=>IX.pin p (Bj _ z)) fun z=>by
  rw[Bm.mp z];exact⟨ho,fC,ce.neL,ce.nfs,fun v e=>by rw[hd]at e;cases e⟩
 refine wpAny_assign_Name (Gh IP hN hi' (.inl hx) (v:= .ref L) rfl (fun s' I'=>?_) (.inr hx))
 have pc:=I'.pin (C,oC) (Bj _ (Bj _ Ax))
 refine⟨m,⟨oC,es,ep,pc.1,hd,hk⟩,fun h7 hs7=>?_⟩
 exact⟨_,H5,I'.unpinned.turned (t':=s'.toks) (fun b o hb e=>hs7.extBut b o hb e) fC ce.neL (.inr ce.new) ce.cel ce.pin,q⟩
end
end L2
namespace Srt
open PySem PySem.W PyProof.Rows
structure Ord {κ:Type} (lt:κ->κ->Bool):Prop where
 trans:∀a b c,lt b a=false->lt c b=false->lt c a=false
 asym:∀a b,lt a b=true->lt b a=false
section
variable {κ:Type} {lt:κ->κ->Bool} (O:Ord lt) (f:Nat->κ) {n:Nat}
noncomputable abbrev ky (p:Array Nat) (i:Nat):κ:=f (p.getD i 0)
def Up (lt:κ->κ->Bool) (f:Nat->κ) (p:Array Nat) (m:Nat):Prop:=∀i j,i<=j->j<m->lt (ky f p j) (ky f p i)=false
structure Pm (n:Nat) (p:Array Nat):Prop where
 perm:p.toList.Perm (List.range n)
theorem Pm.size {p:Array Nat} (h:Pm n p):p.size=n:=by
 have:=h.perm.length_eq;simpa using this
include O
theorem irr (a:κ):lt a a=false:=by
 cases h:lt a a with
 |false=>rfl
 |true=>have:=O.asym a a h;rw[h]at this;exact this
end
end Srt
namespace L2
open PySem PySem.Spec PyProof.Rows
section
variable {X:Cx} {pins:AL} {σ:St} {H:Hp} {s:Shared} {h':Heap}
def Inv.turnLay {ch:List Addr} {a:Addr} {o:HO} {t':Nat} (I:Inv X pins σ H s) (k:∀b u,b∉ch->s.heap.get? b=some u->h'.get? b=some u) (hch:∀b∈ch,yB X pins H b)
  (hp:s.heap.objs.size<=a) (new:ObjOk X.prog X.w (zh H a o) h' a o):Inv X pins σ (zh H a o) {s with heap:=h',toks:=t'}:=by
 have hn:H a=none:=I.hok.fresh hp;have ne:∀b u,s.heap.get? b=some u->b≠a:=fun b u e=>Au (Az (Aj e) hp)
 have nc:∀b u,H b=some u->b∉ch:=fun b u e hb=>by have:=(hch b hb).1;rw[e]at this;cases this
 refine I.step (g':=s.gens) (d':=s.drawn) (ch:=ch) (fun b hb=>⟨(hch b hb).2.2.2.1,(hch b hb).2.1,(hch b hb).2.2.2.2.1,(hch b hb).2.2.2.2.2⟩) (fun b u _ _ hc e _=>k b u hc e) (fun b u _ _ hc e _=>⟨u.slots,k b u hc e⟩)
  (fun b u _ e n=>by rw[zj (ne b u e)];exact n) (fun b u hc e=>⟨u,k b u hc e⟩) (fun b xs e=>by rw[zj (ym e hn)];exact e) (fun b u v e=>by rw[zj (ym e hn)];exact e)
  (fun b ps e=>⟨#[],by rw[zj (ym e hn)];rw[e];simp⟩) (fun m hm=>?_) (fun b u e=>?_) I.bare
 .obtain⟨ob,es,ep,ho,r⟩:=hm
  refine⟨ob,es,ep,k _ ob (fun hb=>(hch _ hb).2.1 rfl) ho,r⟩
 .by_cases hb:b=a
  .subst hb;rw[zF]at e;cases e;exact new
  .rw[zj hb]at e
   refine (I.hok b u e).stay (fun c v hc q=>k c v ?_ q) (fun c q=>by rw[zj (ym q hn)];exact q) fun c xs q=>by rw[zj (ym q hn)];exact q
   rcases hc with z|z
   .rw[z];exact nc b u e
   .exact nc c _ z
def Inv.turnedL {ch:List Addr} {t':Nat} (I:Inv X pins σ H s) (k:∀b u,b∉ch->s.heap.get? b=some u->h'.get? b=some u) (hch:∀b∈ch,yB X pins H b):Inv X pins σ H {s with heap:=h',toks:=t'}:=by
 have nc:∀b u,H b=some u->b∉ch:=fun b u e hb=>by have:=(hch b hb).1;rw[e]at this;cases this
 refine I.step (g':=s.gens) (d':=s.drawn) (ch:=ch) (fun b hb=>⟨(hch b hb).2.2.2.1,(hch b hb).2.1,(hch b hb).2.2.2.2.1,(hch b hb).2.2.2.2.2⟩) (fun b u _ _ hc e _=>k b u hc e) (fun b u _ _ hc e _=>⟨u.slots,k b u hc e⟩)
  (fun b u _ e n=>n) (fun b u hc e=>⟨u,k b u hc e⟩) (fun b xs e=>e) (fun b u v e=>e) (fun b ps e=>⟨#[],by rw[e];simp⟩) (fun m hm=>?_) (fun b u e=>?_) I.bare
 .obtain⟨ob,es,ep,ho,r⟩:=hm
  refine⟨ob,es,ep,k _ ob (fun hb=>(hch _ hb).2.1 rfl) ho,r⟩
 .refine (I.hok b u e).stay (fun c v hc q=>k c v ?_ q) (fun c q=>q) fun c xs q=>q
  rcases hc with z|z
  .rw[z];exact nc b u e
  .exact nc c _ z
end
section
variable {X:Cx}
def O4:CallR X (.builtin "isinstance") (fun xs H Q=> ∃x T t b,xs=[x,.ty T]/\TyOf X.K H x t/\PySem.W.kitOne X.K t (.type T)=some b/\Q (.bl b) H):=by
 intro pins s σ H xs us Q I r h;obtain⟨x,T,t,b,rfl,ty,e,q⟩:=h;obtain⟨u,v,rfl,rx,ry⟩:=DQ r;cases ry;exact ND I rx ty e fun tk=>⟨.bl b,H,I.tok tk,rfl,q⟩
def O5 {A:Around} (h:A.handled=none):A.in1.handled=none:=h
def O6 (hc:X.calm=true):CallR X (.builtin "all") (fun xs H Q=> ∃(p:Addr) (bs:List Bool),xs=[.ref p]/\SqL X.K H p (bs.map V.bl)/\Q (.bl (bs.all id)) H):=by
 intro pins s σ H xs us Q I r h;obtain⟨p,bs,rfl,hq,q⟩:=h;obtain⟨u,rfl,rx⟩:=AH r;cases rx;obtain⟨its,rv,pl,hz⟩:=I.list hq
 refine call_all_walk (wpAny_pyIter_list pl.isList ?_)
 have hp:p<s.heap.objs.size:=by obtain⟨o,n,e,_⟩:=pl;exact Aj e
 have hlen:its.length=bs.length:=by rw[<-rv.length,Ap]
 refine⟨s.heap.objs.size,_,_,_,_,_,fun i=>bs.getD i true,rfl,Walks.list (O5 (I.ok.hd hc)) _ p (Au hp) its.toArray,⟨⟨_,Bn _ rfl,rfl,rfl⟩,pl.isList.push _⟩,?_,fun h' tk k=>?_⟩
 .intro i v s' Q' E' hv hQ
  have hv':its[i]? =some v:=by simpa using hv
  have hi:i<bs.length:=by rw[<-hlen];exact (Aq.mp hv').1
  obtain⟨u,hu,ru⟩:=rv.get (i:=i) (x:= .bl bs[i]) (by simp[hi])
  rw[hv']at hu;cases hu;cases ru
  refine Da ?_
  have e:bs.getD i true=bs[i]:=by simp[hi]
  dsimp only at hQ;rw[e]at hQ;exact hQ
 .refine⟨.bl _,H,I.kept (t':=tk) (fun b o e=>k b o (by simpa using Au (Aj e)) (Ao _ e)),?_,q⟩
  show Value.bool _=Value.bool _
  congr 1
  rw[Al,hlen];have:∀(bs:List Bool) (n:Nat),n=bs.length->(List.range n).all (fun i=>bs.getD i true)=bs.all id:=by
   intro bs n hn;rw[Bool.eq_iff_iff,Cm,Cm]
   constructor
   .intro h x hx
    obtain⟨i,hi,rfl⟩:=List.mem_iff_getElem.mp hx;have:=h i (B7.mpr (by lia))
    simpa[hi] using this
   .intro h i hi
    have hi':i<bs.length:=by have:=B7.mp hi;lia
    have:=h bs[i] (List.getElem_mem hi');simpa[hi'] using this
  exact this bs _ rfl
theorem Paired.getL {α β:Type} {F:α->β->Prop}:∀{l₁:List α} {l₂:List β} {i:Nat} {a:α},Paired F l₁ l₂->l₁[i]? =some a->∃b,l₂[i]? =some b/\F a b
 |_,_,_,_,.nil,e=>by simp at e
 |_,_,0,_,.cons r _,e=>by simp at e;subst e;exact⟨_,rfl,r⟩
 |_,_,i+1,a,.cons _ t,e=>by
  obtain⟨u,h1,h2⟩:=Paired.getL (i:=i) (a:=a) t (by simpa using e)
  exact⟨u,by simpa using h1,h2⟩
end
end L2
namespace L2
open PySem PySem.W PySem.Spec PyProof.Rows
def JS {α:Type} (l:List α) (d:α):(List.range l.length).map (fun i=>l.getD i d)=l:=by
 apply List.ext_getElem
 .simp
 .intro i h1 h2
  simp[h2]
section
variable {X:Cx}
theorem Paired.mapL {α β γ:Type} {F:α->β->Prop} {f:γ->α} {g:γ->β}:∀{l:List γ},(∀c∈l,F (f c) (g c))->Paired F (l.map f) (l.map g)
 | [],_=>.nil
 |c::l,h=>.cons (h c Ax) (Paired.mapL fun d hd=>h d (A1 _ hd))
end
noncomputable def JT (sc:Scope) (N loc free:List Str) (fr:List Nat) (scope:Scope):Bool:=
 decide (scope.kind=.function) && scope.names.all (fun y=>decide (y.2≠ .cell)) && scope.names.all (fun y=>decide (y.2≠ .local) || decide (scope.names.lookup y.1=some .local)) &&
 scope.names.all (fun y=>decide (y.2≠ .free) || (decide (sc.names.lookup y.1=some .cell) || decide (sc.names.lookup y.1=some .free))) && decide (fr.length=free.length) &&
 (List.range fr.length).all fun i=>match fr[i]?,free[i]? with
  |some j,some x=>decide (N[j]? =some x) && decide (scope.names.lookup x=some .free)
  |_,_=>true
def AU {X:Cx} {sc:Scope} {N loc free:List Str} {fr:List Nat} {scope:Scope} (e1:X.env.scope=sc) (e2:X.N=N) (h:JT sc N loc free fr scope=true):CompScope X loc free fr scope:=by
 unfold JT at h;simp only[As,Cm,Bool.or_eq_true,C4]at h;obtain⟨⟨⟨⟨⟨h1,h2⟩,h3⟩,h4⟩,h5⟩,h6⟩:=h
 refine⟨h1,fun y hy=>h2 y hy,fun y hy hl=>(h3 y hy).elim (fun z=>absurd hl z) id,fun y hy hf=>?_,fun i j x a b=>?_,h5⟩
 .show X.env.scope.names.lookup y.1=some .cell\/X.env.scope.names.lookup y.1=some .free
  rw[e1];exact (h4 y hy).elim (fun z=>absurd hf z) id
 .have hi:i<fr.length:=(Aq.mp a).1
  have:=h6 i (B7.mpr hi);rw[a,b]at this;simp only[As,C4]at this;rw[e2];exact this
def pgc {X:Cx} {x:Str} {pos:Pos} (i:Nat) (N:List Str) (nd:N.Nodup) (eN:X.N=N) (hi:N[i]? =some x) (hx:Loc X.env.scope x) (hl:X.env.scope.names.lookup x=some .local):PG X (.Name x pos) (DN i):=
 qj (eN ▸ nd) (by rw[eN];exact hi) hx (.inr hl)
structure Dfn (K:FG) (mg:Str->Option Value) (x:Str) (st:Stmt) (ps:List Str) (f:Addr) (fd:FuncData):Prop where
 F:Fun K x x st f fd
 b:Binds K fd ps []
 g:mg x=some (.ref f)
structure DfnM (K:FG) (x qual:Str) (st:Stmt) (ps:List Str) (f:Addr) (fd:FuncData):Prop where
 F:Fun K x qual st f fd
 b:Binds K fd ps []
end L2
namespace L2
open PySem PySem.Spec PyProof.Rows
section
variable {X:Cx} {pos:Pos}
def gLst (K:FG) (n:Nat) (t:qz):TG:=fun v σ H Q=> ∃a xs,v=.ref a/\SqL K H a xs/\xs.length=n/\t xs σ H Q
def O7 {es:List Expr} {k:Nat} {t:qz} {n:Nat} (hc:X.calm=true) (h:qA X es t)
  (hn:(assignEach es X.env).length=n:=by rfl) (hst:(assignEach es X.env).findIdx? (·.1)=none:=by rfl):PG X (.Tuple es k pos) (gLst X.K n t):=by
 intro pins s σ H v u Q I r hw;obtain⟨a,xs,e1,hq,hl,hw⟩:=hw;subst e1;cases r;obtain⟨its,rv,pl,hz⟩:=I.list hq;rw[assign_Tuple]
 refine Ae (wpAny_standAt ?_)
 unfold unpack;rw[hst,hn,show n=its.toArray.size by simp[<-hl,rv.length]]
 refine Ae (Cy (PySem.W.kun_itemsOf (I.ok.hd hc) pl.isList fun h' hx=>?_))
 have I1:Inv X pins σ H {s with heap:=h'}:=I.kept (t':=s.toks) fun b o e=>hx b o (Au (Aj e)) e
 exact h pins _ σ H xs _ Q I1 (by simpa using rv) hw
end
def TrD (h base:Heap) (e:Addr) (cls a0:Value) (dd:Option Addr) (fl:Value):Prop:=
 ∃oe vs T oT ts,h.get? e=some oe/\(oe.cls=cls/\oe.dict=dd/\vs[0]? =some a0)/\oe.data=.fields vs/\vs[1]? =some (.ref T)/\base.get? T=none/\T≠e/\h.get? T=some oT/\oT.data=.fields ts/\ts[3]? =some fl
def qp (base:Heap) (l:List Env) (e:Addr) (cls a0:Value) (dd:Option Addr) (fl:Value) (h:Heap):Prop:=base.StaysIn h/\base.get? e=none/\h.FunFrames base l/\TrD h base e cls a0 dd fl
def O8 (o:Obj) (f:Array Value->Array Value):(Obj.mapFields f o).dict=o.dict:=by
 obtain⟨c,d,dt,sl⟩:=o;cases dt<;>rfl
section
variable {M:Model} {A:Around} {E:VP} {s:Shared} {base:Heap} {env:Env} {outer l:List Env} {L e:Addr} {oe:Obj} {vs:Array Value} {head a0 cls fl:Value} {dd:Option Addr} {hadNext:Bool} {Q:Unit->Shared->Prop}
def JU (hfr:A.frames=some (env::outer)) (hl:s.heap.FunFrames base (env::outer)) (hf:env.frame=some L)
  (he:s.heap.get? e=some oe) (hkb:base.StaysIn s.heap) (hen:base.get? e=none) (hd:oe.data=.fields vs) (hsz:1<vs.size) (h0:vs[0]? =some a0)
  (h:∀h',qp base (env::outer) e oe.cls a0 oe.dict (rawInt L) h'->s.heap.UpToSlots h'->Q () {s with heap:=h'}):
  wpAny M A (do let a <-PySem.frameOf env;let pl <-entryPlaceOf L hadNext;let b <-EntryCells.newEntry head a .none (rawInt L) .none pl;setField (.ref e) 1 b) Q E s:=by
 have ne:e∉(env::outer).filterMap (·.frame):=fun hm=>by
  obtain⟨_,o,ho,hnf⟩:=hl.mem hm;rw[he]at ho;cases ho;exact hnf vs hd
 refine Ae (wpAny_frameOf_fun hfr hl hf fun g hg=>Ae (wpAny_entryPlaceOf fun pl hpl=>?_))
 unfold EntryCells.newEntry newFields
 refine Ae (Dp ?_ (hpl.sizeOk5 _ _ _ _ _))
 generalize hO:({cls:= .type "traceback",dict:=none,data:= .fields ([head,.ref L,.none,rawInt L,.none]++(if pl.isEmpty then List.replicate 6 Value.none else pl)).toArray}:Obj)=O
 have g1:g.get? e=some oe:=(hg.2.1 e ne).trans he;have kb:base.StaysIn g:=fun b o q=>(hg.2.1 b fun hm=>by rw[(hl.mem hm).1]at q;cases q).trans (hkb b o q)
 have g2:=Ao (h:=g) O g1
 refine Ez g2 hd hsz (h _ ?_ ?_)
 all_goals have te:g.objs.size≠e:=Cz (Aj g1)
 all_goals have d3:=Obj.data_mapFields hd (·.setIfInBounds 1 (Value.ref g.objs.size))
 all_goals have g3:=D7 (Obj.mapFields (·.setIfInBounds 1 (Value.ref g.objs.size))) g2 (Obj.isFreed_of_fields d3)
 all_goals have t3:=(Dg (g.push O) (Obj.mapFields (·.setIfInBounds 1 (Value.ref g.objs.size))) (Av te)).trans (Bn g (by rw[<-hO];rfl))
 all_goals have keep:∀b o,b≠e->g.get? b=some o->((g.push O).update e (Obj.mapFields (·.setIfInBounds 1 (Value.ref g.objs.size)))).get? b=some o:=fun b o hbe hb=>(Dg _ _ (Av hbe)).trans (Ao _ hb)
 all_goals have nr:∀b o,s.heap.get? b=some o->(∀vs,o.data≠ .fields vs)->b≠e:=fun b o hb hnf q=>by rw[q,he]at hb;cases hb;exact hnf vs hd
 .refine⟨fun b o q=>keep b o (fun z=>by rw[z,hen]at q;cases q) (kb b o q),hen,hl.of_keeps fun b o hb hnf=>?_,?_⟩
  .obtain⟨sl,hs⟩:=hg.2.2 b o hb
   exact⟨_,keep b _ (nr b o hb hnf) hs,rfl⟩
  .exact⟨_,_,g.objs.size,O,([head,.ref L,.none,rawInt L,.none]++(if pl.isEmpty then List.replicate 6 Value.none else pl)).toArray,g3,⟨Obj.cls_mapFields _ _,O8 _ _,by rw[Array.getElem?_setIfInBounds_ne (by decide)];exact h0⟩,d3,by simp[hsz],kb.fresh,te,t3,by rw[<-hO],by first|(simp;done)|(rcases hpl with rfl|⟨_,_,_,_,_,_,_,rfl⟩<;>simp)⟩
 .intro b o hb hnf
  obtain⟨sl,hs⟩:=hg.2.2 b o hb;exact⟨sl,keep b _ (nr b o hb hnf) hs⟩
def Gr (fo:Option Addr) (R:qp base l e cls a0 dd fl s.heap) (h:∀h',qp base l e cls a0 dd (fo.elim .none fun f=>rawInt f) h'->s.heap.UpToSlots h'->Q () {s with heap:=h'}):wpAny M A (setFlight (.ref e) fo) Q E s:=by
 obtain⟨k,en,hl,oe,vs,T,oT,ts,he,hcls,hd,h1,hnT,hTe,hT,hdT,h3⟩:=R;have z3:3<ts.size:=(Dr.mp h3).1;have oth:∀b,b≠T->(s.heap.update T (Obj.mapFields (·.setIfInBounds 3 (fo.elim Value.none fun f=>rawInt f)))).get? b=s.heap.get? b:=fun b hb=>Dg _ _ (Av hb)
 have nr:∀b o,s.heap.get? b=some o->(∀vs,o.data≠ .fields vs)->b≠T:=fun b o hb hnf q=>by rw[q,hT]at hb;cases hb;exact hnf ts hdT
 unfold setFlight
 refine Ae (Df he hd h1 ?_)
 rw[Aa (show (Value.ref T !=Value.none)=true from by simp)]
 refine Ez hT hdT z3 (h _ ⟨fun b o q=>(oth b fun z=>by rw[z,hnT]at q;cases q).trans (k b o q),en,hl.of_keeps fun b o hb hnf=>⟨o,(oth b (nr b o hb hnf)).trans hb,rfl⟩,?_⟩ fun b o hb hnf=>⟨o.slots,(oth b (nr b o hb hnf)).trans hb⟩)
 exact⟨oe,vs,T,_,_,(oth e (Av hTe)).trans he,hcls,hd,h1,hnT,hTe,D7 _ hT (Obj.isFreed_of_fields (Obj.data_mapFields hdT _)),Obj.data_mapFields hdT _,by simp[z3]⟩
def JV (hfr:A.frames=some (env::outer)) (hf:env.frame=some L) (R:qp base (env::outer) e cls a0 dd .none s.heap)
  (h:∀h',qp base (env::outer) e cls a0 dd (rawInt L) h'->s.heap.UpToSlots h'->Q () {s with heap:=h'}):wpAny M A (noteFrame (.ref e) env) Q E s:=by
 obtain⟨k,en,hl,oe,vs,T,oT,ts,he,⟨rfl,rfl,h0⟩,hd,h1,hnT,hTe,hT,hdT,h3⟩:=R;unfold noteFrame;simp only[hf]
 refine Ae (Df he hd h1 ?_)
 rw[Aa (show (Value.ref T !=Value.none)=true from by simp)]
 refine Ae (Df hT hdT h3 ?_)
 rw[Ab (show ¬((Value.none==rawInt L)=true) from by simp[rawInt])]
 refine Ae (Ez hT hdT (Dr.mp h3).1 ?_)
 have oth:∀b,b≠T->(s.heap.update T (Obj.mapFields (·.setIfInBounds 3 Value.none))).get? b=s.heap.get? b:=fun b hb=>Dg _ _ (Av hb)
 have nr:∀b o,s.heap.get? b=some o->(∀vs,o.data≠ .fields vs)->b≠T:=fun b o hb hnf q=>by rw[q,hT]at hb;cases hb;exact hnf ts hdT
 exact JU hfr (hl.of_keeps fun b o hb hnf=>⟨o,(oth b (nr b o hb hnf)).trans hb,rfl⟩) hf ((oth e (Av hTe)).trans he) (fun b o q=>(oth b fun z=>by rw[z,hnT]at q;cases q).trans (k b o q)) en hd (Dr.mp h1).1 h0
  fun h' x u=>h h' x fun b o hb hnf=>u b o ((oth b (nr b o hb hnf)).trans hb) hnf
def O9 (hfr:A.frames=some (env::outer)) (hl:s.heap.FunFrames base (env::outer)) (hf:env.frame=some L) (he:s.heap.get? e=some oe) (hkb:base.StaysIn s.heap) (hen:base.get? e=none) (hd:oe.data=.fields vs) (h1:vs[1]? =some .none) (h0:vs[0]? =some a0)
  (h:∀h',qp base (env::outer) e oe.cls a0 oe.dict .none h'->s.heap.UpToSlots h'->Q () {s with heap:=h'}):wpAny M A (leaving env (.ref e)) Q E s:=by
 unfold leaving noteFrame;simp only[hf]
 refine Ae (Ae (Df he hd h1 ?_))
 rw[Ab (by decide)]
 exact JU hfr hl hf he hkb hen hd (Dr.mp h1).1 h0 fun h' x u=>Gr none x fun h'' y v=>h h'' y (u.trans v)
def OA (hfr:A.frames=some (env::outer)) (hf:env.frame=some L) (R:qp base (env::outer) e cls a0 dd .none s.heap) (h:∀h',qp base (env::outer) e cls a0 dd .none h'->s.heap.UpToSlots h'->Q () {s with heap:=h'}):wpAny M A (leaving env (.ref e)) Q E s:=by
 unfold leaving;exact Ae (JV hfr hf R fun h' x u=>Gr none x fun h'' y v=>h h'' y (u.trans v))
end
def Trc (h:Heap) (a T:Addr) (cls a0:Value) (dd:Option Addr):Prop:=
 ∃oe vs oT ts,h.get? a=some oe/\(oe.cls=cls/\oe.dict=dd/\vs[0]? =some a0)/\oe.data=.fields vs/\vs[1]? =some (.ref T)/\T≠a/\h.get? T=some oT/\oT.data=.fields ts/\ts[3]? =some .none
structure Left (l:List Env) (hid:List Addr) (a T':Addr) (cls a0:Value) (dd:Option Addr) (h h':Heap):Prop where
 keep:∀b o,h.get? b=some o->b∉hid->h'.get? b=some o
 slot:∀b o,h.get? b=some o->b∈z6 l->∃sl,h'.get? b=some {o with slots:=sl}
 trc:Trc h' a T' cls a0 dd
 new:∀b o,h.get? b=some o->b∉hid->b≠T'
 nfr:T'∉z6 l
section
variable {M:Model} {A:Around} {E:VP} {s:Shared} {base:Heap} {env:Env} {outer:List Env} {L a T:Addr} {cls a0:Value} {dd:Option Addr} {Q:Unit->Shared->Prop}
def HF {l:List Env}:∀env∈l,∀b,env.frame=some b->b∈z6 l:=fun env he b hb=>D5.mpr ⟨env,he,hb⟩
def JW {l:List Env} {hid:List Addr} {h h':Heap} (hl:h.FunFrames base l) (x:qp (PySem.W.hideAll h hid) l a cls a0 dd .none h') (x4:h.UpToSlots h'):∃T',Left l hid a T' cls a0 dd h h':=by
 obtain⟨x1,_,x2,oe,vs,T',oT,ts,t1,t2,t3,t4,t5,t6,t7,t8,t9⟩:=x;have kp:∀b o,h.get? b=some o->b∉hid->(PySem.W.hideAll h hid).get? b=some o:=fun b o e n=>PySem.W.hideAll_get hid e n
 refine⟨T',fun b o e n=>x1 b o (kp b o e n),fun b o e hb=>?_,⟨oe,vs,oT,ts,t1,t2,t3,t4,t6,t7,t8,t9⟩,fun b o e n z=>?_,fun hb=>?_⟩
 .refine x4 b o e fun vs hv=>?_
  obtain⟨_,o',ho',hn⟩:=hl.mem hb;rw[e]at ho';cases ho';exact hn vs hv
 .have:=kp b o e n
  rw[z,t5]at this;cases this
 .obtain⟨_,o',ho',hn⟩:=x2.mem hb
  rw[t7]at ho';cases ho';exact hn ts t8
def OB (hfr:A.frames=some (env::outer)) (hl:s.heap.FunFrames base (env::outer)) (hf:env.frame=some L) (tr:Trc s.heap a T cls a0 dd)
  (hQ:∀h' T',Left (env::outer) (a::T::z6 (env::outer)) a T' cls a0 dd s.heap h'->Q () {s with heap:=h'}):wpAny M A (leaving env (.ref a)) Q E s:=by
 obtain⟨oe,vs,oT,ts,t1,t2,t3,t4,t6,t7,t8,t9⟩:=tr;have hid:∀b∈z6 (env::outer),b∈a::T::z6 (env::outer):=fun b hb=>.tail _ (.tail _ hb)
 refine OA (base:=PySem.W.hideAll s.heap (a::T::z6 (env::outer))) (cls:=cls) (a0:=a0) (dd:=dd) hfr hf ⟨fun b o q=>Ep _ q,Do _ (.head _),Fu hl fun e he b hb=>hid b (HF e he b hb),
  oe,vs,T,oT,ts,t1,t2,t3,t4,Do _ (.tail _ (.head _)),t6,t7,t8,t9⟩ fun h' x u=>?_
 obtain⟨T',y⟩:=JW hl x u;exact hQ h' T' y
def OC {oe:Obj} {vs:Array Value} (hfr:A.frames=some (env::outer)) (hl:s.heap.FunFrames base (env::outer)) (hf:env.frame=some L) (he:s.heap.get? a=some oe) (hd:oe.data=.fields vs) (h1:vs[1]? =some .none) (h0:vs[0]? =some a0)
  (hQ:∀h' T',Left (env::outer) (a::z6 (env::outer)) a T' oe.cls a0 oe.dict s.heap h'->Q () {s with heap:=h'}):wpAny M A (leaving env (.ref a)) Q E s:=by
 have hid:∀b∈z6 (env::outer),b∈a::z6 (env::outer):=fun b hb=>.tail _ hb
 refine O9 (base:=PySem.W.hideAll s.heap (a::z6 (env::outer))) hfr (Fu hl fun e he b hb=>hid b (HF e he b hb)) hf he (fun b o q=>Ep _ q) (Do _ (.head _)) hd h1 h0 fun h' x u=>?_
 obtain⟨T',y⟩:=JW hl x u;exact hQ h' T' y
end
def HOk.there {P:Program} {w:World} {H:Hp} {h:Heap} {a:Addr} {o:HO} (x:HOk P w H h) (q:H a=some o):∃ob,h.get? a=some ob:=by
 have this:=x a o q;cases e:h.get? a with
 |some ob=>exact⟨ob,rfl⟩
 |none=>
  exfalso
  cases o with
  |lst xs=>obtain⟨_,_,_,_,z⟩:=this;rw[e]at z;cases z
  |tup xs=>obtain⟨_,_,_,o1,z,_⟩:=this;rw[e]at z;cases z
  |dK kvs=>obtain⟨_,_,_,_,o,_,_,z,_⟩:=this;rw[e]at z;cases z
  |dT kvs=>obtain⟨_,_,_,_,o,_,_,z,_⟩:=this;rw[e]at z;cases z
  |set S n=>obtain⟨o,_,_,_,z,_⟩:=this;rw[e]at z;cases z
  |ins C dx fs=>obtain⟨_,_,_,z,_⟩:=this;rw[e]at z;cases z
  |own y=>obtain⟨_,z⟩:=this;rw[e]at z;cases z
  |xd fs=>obtain⟨_,⟨_,_,_,z,_⟩,_⟩:=this;rw[e]at z;cases z
  |rng lo hi=>obtain⟨_,_,_,z⟩:=this;rw[e]at z;cases z
  |frz ob u=>obtain⟨z,_⟩:=this;rw[e]at z;cases z
  |tbl ps=>have z:h.get? a=some _:=this;rw[e]at z;cases z
  |met f y=>have z:h.get? a=some _:=this;rw[e]at z;cases z
  |ext φ=>obtain⟨_,⟨_,z⟩,_⟩:=this;rw[e]at z;cases z
def HOk.untracked {P:Program} {w:World} {H:Hp} {h:Heap} {a:Addr} (x:HOk P w H h) (e:h.get? a=none):H a=none:=by
 cases q:H a with
 |none=>rfl
 |some o=>
  obtain⟨ob,z⟩:=x.there q;rw[e]at z;cases z
def XT (P:Program) (w:World):yZ:=fun outer H s E e s'=> ∃(a T:Addr) (cls a0:Value) (dd:Option Addr) (H':Hp),e=.ref a/\s'.os=s.os/\AllBare s'.gens/\Un (z6 outer) [] H H' s.heap s'.heap/\HOk P w H' s'.heap/\
 s.heap.get? a=none/\s.heap.get? T=none/\H' a=none/\H' T=none/\Trc s'.heap a T cls a0 dd/\E cls dd H'
section
variable {P:Program} {w:World} {K:FG} {mg:Str->Option Value} {base:Heap} {N:List Str} {qual:Str} {scope:Scope} {f:Addr} {cd:Value} {A:Around} {outer:List Env} {s0:Shared} {H0:Hp} {E:XK}
def Inv.left {X:Cx} {pins:AL} {σ:St} {H:Hp} {s:Shared} {hid:List Addr} {a T':Addr} {cls a0:Value} {dd:Option Addr} {h':Heap} (hst:X.stack=X.env::X.outer) (hex:X.ex=[]) (I:Inv X pins σ H s) (y:Left X.stack hid a T' cls a0 dd s.heap h')
  (hh:∀b∈hid,(b∈z6 X.stack\/X.s₀.heap.get? b=none)/\H b=none):
  Un X.fs [] X.H₀ H X.s₀.heap h'/\HOk X.prog X.w H h'/\X.s₀.heap.get? T'=none/\H T'=none:=by
 have hfo:∀b o,X.s₀.heap.get? b=some o->b∉X.fs->b∉z6 X.stack:=fun b o e n hb=>by
  rcases Ag.mp (I.stkSub b hb) with z|z
  .have h1:=Aj e
   have h2:=I.ok.above;rw[z]at h1;exact absurd (Az h1 h2) (B6 _)
  .exact n z
 have nh:∀b o,X.s₀.heap.get? b=some o->b∉X.fs->b∉hid:=fun b o e n hb=>by
  rcases (hh b hb).1 with z|z
  .exact hfo b o e n z
  .rw[e]at z;cases z
 have fsub:∀b∈X.fs,b∈z6 X.stack:=fun b hb=>by
  rw[hst];obtain⟨v,hv,e⟩:=D5.mp hb;exact D5.mpr ⟨v,.tail _ hv,e⟩
 have U:=I.base;rw[hex]at U;have no:∀b:Addr,b∉([]:List Addr):=fun b z=>nomatch z
 have anyway:∀b o,s.heap.get? b=some o->(b∉hid\/b∈z6 X.stack)->∃o',h'.get? b=some o':=fun b o e d=>by
  rcases d with d|d
  .exact⟨o,y.keep b o e d⟩
  .obtain⟨sl,q⟩:=y.slot b o e d
   exact⟨_,q⟩
 refine⟨⟨fun b o e n hb _=>y.keep b o (U.keep b o e n hb (no b)) (nh b o e hb),fun b o e n hb _=>?_,U.free,fun b o e _=>?_,U.tups,U.frzs,U.tbls⟩,fun b o e=>?_,?_,?_⟩
 .obtain⟨sl,q⟩:=U.slot b o e n hb (no b)
  obtain⟨sl',q'⟩:=y.slot b _ q (fsub b hb);exact⟨sl',q'⟩
 .obtain⟨o',q⟩:=U.there b o e (no b)
  refine anyway b o' q ?_
  by_cases z:b∈X.fs
  .exact .inr (fsub b z)
  .exact .inl (nh b o e z)
 .refine (I.hok b o e).stay (fun c u hc ec=>y.keep c u ec fun hm=>?_) (fun _ z=>z) fun _ _ z=>z
  have:=(hh c hm).2
  rcases hc with z|z
  .rw[z,e]at this;cases this
  .rw[z]at this;cases this
 .cases q:X.s₀.heap.get? T' with
  |none=>rfl
  |some o=>
   exfalso
   obtain⟨o',q'⟩:=U.there T' o q (no T')
   by_cases z:T'∈X.fs
   .exact y.nfr (fsub _ z)
   .exact y.new T' o' q' (nh T' o q z) rfl
 .cases q:H T' with
  |none=>rfl
  |some o=>
   exfalso
   obtain⟨ob,hob⟩:=I.hok.there q
   refine y.new T' ob hob (fun hm=>?_) rfl
   have:=(hh T' hm).2;rw[q]at this;cases this
def zv:AB (XT P w) (yf (XT P w) P w K mg base N qual scope f cd A outer s0 H0 E) E:=by
 intro pins σ H s e s' I hx;obtain⟨a,T,cls,a0,dd,H',rfl,os,bare,un,hok,na,nT,ha,hT,tr,q⟩:=hx;have I':Inv (yf (XT P w) P w K mg base N qual scope f cd A outer s0 H0 E) pins σ H' s':=I.call' os un hok bare fun b z=>nomatch z
 have old:∀b,s.heap.get? b=none->s0.heap.get? b=none:=fun b e=>by
  cases z:s0.heap.get? b with
  |none=>rfl
  |some o=>
   obtain⟨o',q'⟩:=I.base.there b o z fun y=>nomatch y
   rw[e]at q';cases q'
 refine OB (base:=base) (L:=s0.heap.objs.size) I'.ok.frames I'.stack rfl tr fun h' T' y=>?_
 obtain⟨u,hk,n1,n2⟩:=I'.left rfl rfl y fun b hb=>by
  rcases Ag.mp hb with z|hb
  .rw[z];exact⟨.inr (old a na),ha⟩
  .rcases Ag.mp hb with z|hb
   .rw[z];exact⟨.inr (old T nT),hT⟩
   .exact⟨.inl hb,I'.stkFree b hb⟩
 exact⟨a,T',cls,a0,dd,H',rfl,I'.os,I'.bare,u,hk,old a na,n1,ha,n2,y.trc,q⟩
def HH (X:Cx) (E:XK):Prop:=∀(pins:AL) (σ:St) (H:Hp) (s:Shared) (a C:Addr) (vs:List Value) (h':Heap),Inv X pins σ H s->Heap.MadeExcOf s.heap h' a (.ref C) vs->E (.ref C) none H->X.xe (.ref a) {s with heap:=h'}
def DV:HH (yf (XT P w) P w K mg base N qual scope f cd A outer s0 H0 E) E:=by
 intro pins σ H s a C vs h' I mk q;have I':Inv (yf (XT P w) P w K mg base N qual scope f cd A outer s0 H0 E) pins σ H {s with heap:=h'}:=I.kept (t':=s.toks) mk.keeps
 have na:H a=none:=I.hok.untracked mk.new;have old:s0.heap.get? a=none:=by
  cases z:s0.heap.get? a with
  |none=>rfl
  |some o=>
   obtain⟨o',q'⟩:=I.base.there a o z fun y=>nomatch y
   rw[mk.new]at q';cases q'
 obtain⟨t,ht,_,_⟩:=mk.there
 refine OC (base:=base) (L:=s0.heap.objs.size) (a0:= .ref t) I'.ok.frames I'.stack rfl ht rfl rfl rfl fun h'' T' y=>?_
 obtain⟨u,hk,n1,n2⟩:=I'.left rfl rfl y fun b hb=>by
  rcases Ag.mp hb with z|hb
  .rw[z];exact⟨.inr old,na⟩
  .exact⟨.inl hb,I'.stkFree b hb⟩
 exact⟨a,T',.ref C,_,none,H,rfl,I'.os,I'.bare,u,hk,old,n1,na,n2,y.trc,q⟩
end
noncomputable abbrev qI:List Value:=[.type "ValueError",.type "Exception",.type "BaseException",.type "object"]
structure XCl (K:FG) (mg:Str->Option Value) (x:Str) (C:Addr):Prop where
 ex:PySem.W.excIn K C qI "ValueError.__new__" =true
 gl:mg x=some (.ref C)
def XCl.own {K:FG} {mg:Str->Option Value} {x:Str} {C:Addr} {h:Heap} (c:XCl K mg x C) (X:K.In h):OwnCls x C qI "ValueError.__new__" mg h:=by
 have q:=c.ex;unfold PySem.W.excIn at q
 split at q
 case h_2=>cases q
 case h_1 dd cd sl ho=>
  split at q
  case h_2=>cases q
  case h_1 C' bm y0 y1 y2 y3 n y5 hm hs=>
   simp only[As,Af,Bool.not_eq_true']at q;obtain⟨⟨⟨⟨⟨e1,e2⟩,hdel⟩,ht⟩,hok⟩,hni⟩:=q;subst e1;subst e2;cases cd with
   |mk nm bs mro ns qn hd sn sub ab col del=>
   simp only at hm hdel hok hni;cases hm;cases hdel;have e:sl= #[y0,y1,y2,y3,some (.builtin "ValueError.__new__"),y5]:=Cr hs;cases e;exact⟨c.gl,bm,ns,nm,qn,bs,hd,sn,sub,ab,col,dd,y0,y1,y2,y3,y5,h.nsMap ns,X _ _ ho,.of_isNs (PySem.W.isNs_of_in X hok),PySem.W.nsMap_none_of_in X hok hni,PySem.W.tail_of_in X ht⟩
section
variable {X:Cx} {x:Str} {C:Addr} {np cpos pos:Pos} {e:Expr} {es:List Expr} {ta:TA} {E:XK}
def OD (C:Addr) (E:XK) (ta:TA):TS:=fun _ σ H=>ta σ H fun vs H1=>vs.length<=1000/\E (.ref C) none H1
def OE (c:XCl X.K X.mg x C) (hc:X.calm=true) (hg:Gl X x) (hr:HH X E) (ha:PA X (e::es) ta) (hs:SE X e es:=by rfl) (hp:(backTo cpos (starEach es X.env)).any (·.1)=false:=by rfl)
  (hd:(x==("__debug__" :Str))=false:=by decide):PS X (.Raise (some (.Call (.Name x np) (e::es) [] cpos)) none pos) (OD C E ta):=by
 intro pins s σ H D I h;obtain⟨tl,N,nm,q,bs,hdct,sn,sub,ab,col,dd,k0,k1,k2,k3,k5,mN,hC,hN,hni,T⟩:=(c.own I.ok.mod.kin).obj
 refine wpAny_Raise_call_subT D9 (bm:=tl) (mN:=mN) (C:=C) (N:=N) (k5:=k5) (k3:=k3) (k2:=k2) (k1:=k1) (k0:=k0) (dd:=dd) (col:=col) (ab:=ab) (sub:=sub) (sn:=sn) (hdct:=hdct) (bs:=bs) (q:=q) (nm:=nm) (T.hasType (by decide)) (I.ok.hd hc) (by rw[hs];show (false || _)=false;rw[Bool.false_or];exact hp) hni (AG I hg c.gl ⟨rfl,?_⟩ hd)
 rw[hs]
 refine Ft (zn (by have:=ha cpos pins s σ H _ I h;rw[hs]at this;exact this) fun us s1 z=>?_)
 obtain⟨vs,H1,I1,rv,hl,q1⟩:=z;exact⟨rfl,by show us.length<=sizeLine;rw[<-rv.length];exact Cp (HD hl),I1.bk _ _ hC,hN.keeps I1.bk,T.keeps I1.bk,fun h' a mk=>hr pins σ H1 s1 a C us h' I1 mk q1⟩
end
def Fun.okX {P:Program} {w:World} {K:FG} {mg:Str->Option Value} {base:Heap} {x qual:Str} {st:Stmt} {f:Addr} {fd:FuncData} {N ps:List Str} {k:Nat} {sp:Sp} (F:Fun K x qual st f fd) (S:FnScope N ps (zC st)) (len:∀vs H Q E,sp vs H Q E->vs.length=ps.length)
  (hbody:∀(cdv:Value) (A:Around) (outer:List Env) (s:Shared) (H:Hp) (vs:List V) (Q:VK) (E:XK),Room k (A.deeper (envOfC qual (zC st) s.heap.objs.size f cdv))->sp vs H Q E->
   ∃t,yk (yf (XT P w) P w K mg base N qual (zC st) f cdv A outer s H E) (qH st) t/\t {nx:=fun _ H'=>Q .non H',rt:=Q} (start N vs) H):FnOk P w K mg base (XT P w) (k+1) f fd ps sp:=by
 obtain⟨oc,od,kV,doc,pm,an,cdv,ct,osl,rfl,lk,hcd⟩:=F.ex;exact JB lk hcd S len fun A outer s H vs Q E hr hsp=>hbody cdv A outer s H vs Q E hr hsp
def OF {fs hid:List Addr} {H H':Hp} {h h1 h2:Heap} (u:Un fs [] H H' h h1) (keep:∀b o,h1.get? b=some o->b∉hid->h2.get? b=some o)
  (slot:∀b o,h1.get? b=some o->b∈fs->∃sl,h2.get? b=some {o with slots:=sl}) (hh:∀b∈hid,b∈fs\/h.get? b=none):Un fs [] H H' h h2:=by
 have no:∀b:Addr,b∉([]:List Addr):=fun b z=>nomatch z
 have nh:∀b o,h.get? b=some o->b∉fs->b∉hid:=fun b o e n hb=>by
  rcases hh b hb with z|z
  .exact n z
  .rw[e]at z;cases z
 refine⟨fun b o e n hb _=>keep b o (u.keep b o e n hb (no b)) (nh b o e hb),fun b o e n hb _=>?_,u.free,fun b o e _=>?_,u.tups,u.frzs,u.tbls⟩
 .obtain⟨sl,q⟩:=u.slot b o e n hb (no b)
  obtain⟨sl',q'⟩:=slot b _ q hb;exact⟨sl',q'⟩
 .obtain⟨o',q⟩:=u.there b o e (no b)
  by_cases z:b∈fs
  .obtain⟨sl,q'⟩:=slot b o' q z
   exact⟨_,q'⟩
  .exact⟨o',keep b o' q (nh b o e z)⟩
def OG {P:Program} {w:World} {H:Hp} {h1 h2:Heap} {hid:List Addr} (k:HOk P w H h1) (keep:∀b o,h1.get? b=some o->b∉hid->h2.get? b=some o) (hh:∀b∈hid,H b=none):HOk P w H h2:=fun b o e=>by
 refine (k b o e).stay (fun c u hc ec=>keep c u ec fun hm=>?_) (fun _ z=>z) fun _ _ z=>z
 have:=hh c hm
 rcases hc with z|z
 .rw[z,e]at this;cases this
 .rw[z]at this;cases this
section
variable {X:Cx} {pins:AL} {σ:St} {H:Hp} {s:Shared}
noncomputable abbrev Cx.pinned (X:Cx) (pn:AL):Cx:={X with pn:=pn}
noncomputable abbrev Cx.suite (X:Cx) (e:Value):Cx:={X with A:=X.A.mark (some e),calm:=false}
def Inv.inPn (I:Inv X pins σ H s):Inv (X.pinned (X.pn++pins)) [] σ H s:=
 ⟨⟨I.ok.mod,I.ok.kind,I.ok.glob,I.ok.blt,I.ok.above,I.ok.inj,I.ok.has,I.ok.cab,I.ok.hd,I.ok.frames,I.ok.stk,I.ok.exf,I.ok.bs,I.ok.bsz,I.ok.noex,I.ok.exfs,I.ok.funs,I.ok.frf⟩,I.os,I.bare,I.base,I.loc,I.cell,I.free,I.freeC,fun p hp=>I.pin p (by rw[Bo]at hp;exact hp),I.hok,I.len⟩
def Inv.unpin {ps:AL} (I:Inv (X.pinned (X.pn++pins)) ps σ H s):Inv X pins σ H s:=
 ⟨⟨I.ok.mod,I.ok.kind,I.ok.glob,I.ok.blt,I.ok.above,I.ok.inj,I.ok.has,I.ok.cab,I.ok.hd,I.ok.frames,I.ok.stk,I.ok.exf,I.ok.bs,I.ok.bsz,I.ok.noex,I.ok.exfs,I.ok.funs,I.ok.frf⟩,I.os,I.bare,I.base,I.loc,I.cell,I.free,I.freeC,fun p hp=>I.pin p (B8 _ hp),I.hok,I.len⟩
theorem Inv.suite (I:Inv X pins σ H s) (e:Value):Inv (X.suite e) pins σ H s:=
 ⟨⟨I.ok.mod,I.ok.kind,I.ok.glob,I.ok.blt,I.ok.above,I.ok.inj,I.ok.has,I.ok.cab,(fun z=>Bool.noConfusion z),I.ok.frames,I.ok.stk,I.ok.exf,I.ok.bs,I.ok.bsz,I.ok.noex,I.ok.exfs,I.ok.funs,I.ok.frf⟩,I.os,I.bare,I.base,I.loc,I.cell,I.free,I.freeC,I.pin,I.hok,I.len⟩
def Inv.unsuite {e:Value} (hc:X.calm=true->X.A.handled=none) (I:Inv (X.suite e) pins σ H s):Inv X pins σ H s:=
 ⟨⟨I.ok.mod,I.ok.kind,I.ok.glob,I.ok.blt,I.ok.above,I.ok.inj,I.ok.has,I.ok.cab,hc,I.ok.frames,I.ok.stk,I.ok.exf,I.ok.bs,I.ok.bsz,I.ok.noex,I.ok.exfs,I.ok.funs,I.ok.frf⟩,I.os,I.bare,I.base,I.loc,I.cell,I.free,I.freeC,I.pin,I.hok,I.len⟩
def SP.conv {Y:Cx} {ps:AL} {D:Ends} {f:Flow} {s':Shared} (k:∀σ' H',Inv Y ps σ' H' s'->Inv X pins σ' H' s') (h:SP Y ps D f s'):SP X pins D f s':=by
 cases f with
 |next=>obtain⟨σ',H',I,q⟩:=h;exact⟨σ',H',k _ _ I,q⟩
 |brk=>obtain⟨σ',H',I,q⟩:=h;exact⟨σ',H',k _ _ I,q⟩
 |cont=>obtain⟨σ',H',I,q⟩:=h;exact⟨σ',H',k _ _ I,q⟩
 |ret u=>obtain⟨v,σ',H',I,r,q⟩:=h;exact⟨v,σ',H',k _ _ I,r,q⟩
end
def HI (a:Addr) (cls:Value) (dd:Option Addr):Heap->Prop:=fun h=> ∃o vs,h.get? a=some o/\o.cls=cls/\o.data=.fields vs/\o.dict=dd
abbrev zV (a:Addr) (cls:Value) (dd:Option Addr):HO:= .ext (HI a cls dd)
section
variable {X:Cx} {pins:AL} {σ:St} {H:Hp} {s:Shared}
def Inv.track {a:Addr} {o:HO} (I:Inv X pins σ H s) (hn:H a=none) (h0:X.s₀.heap.get? a=none) (hl:a≠X.env.locals) (hc:∀x c,X.env.cells.lookup x=some c->c≠a) (hp:∀p∈X.pn++pins,p.1≠a) (new:ObjOk X.prog X.w (zh H a o) s.heap a o):
  Inv X pins σ (zh H a o) s:=by
 refine⟨I.ok,I.os,I.bare,⟨I.base.keep,I.base.slot,fun b u e n hx=>?_,I.base.there,fun b xs e=>?_,fun b u v e=>?_,fun b ps e=>?_⟩,I.loc,I.cell,?_,fun y c e=>?_,fun p q=>?_,fun b u e=>?_,I.len⟩
 .rw[zj (fun z=>by rw[z,h0]at e;cases e)];exact I.base.free b u e n hx
 .rw[zj (ym (I.base.tups b xs e) hn)];exact I.base.tups b xs e
 .rw[zj (ym (I.base.frzs b u v e) hn)];exact I.base.frzs b u v e
 .obtain⟨more,q⟩:=I.base.tbls b ps e
  exact⟨more,by rw[zj (ym q hn)];exact q⟩
 .rw[zj hl.symm];exact I.free
 .rw[zj (hc y c e)];exact I.freeC y c e
 .obtain⟨e,n,r⟩:=I.pin p q
  exact⟨e,by rw[zj (hp p q)];exact n,r⟩
 .by_cases hb:b=a
  .subst hb;rw[zF]at e;cases e;exact new
  .rw[zj hb]at e
   exact (I.hok b u e).stay (fun c v _ q=>q) (fun c q=>by rw[zj (ym q hn)];exact q) fun c xs q=>by rw[zj (ym q hn)];exact q
def Gs {M:Model} {A:Around} {E:VP} {i:Nat} {n:Str} {pos:Pos} {Q:Unit->Shared->Prop} (I:Inv X pins σ H s) (hN:X.N.Nodup) (hi:X.N[i]? =some n) (hx:X.env.kindOf n=some .local)
  (h:∀s',Inv X pins (σ.set i none) H s'->Q () s'):wpAny M A (do bindName X.env n .none;unbindBehindTheSuite X.env n pos) Q E s:=by
 obtain⟨m,hn,hl⟩:=id I.loc;have hcls:(X.env.scope.kind== .class || (X.env.scope.kind== .module && X.env.locals !=X.env.globals))=false:=by rw[I.ok.kind];rfl
 refine wpAny_nameGoes_keeps hx hn hcls fun h' v hn' hs=>h _ ?_
 have lt:∀b o,X.s₀.heap.get? b=some o->b≠X.env.locals:=fun b o e=>Au (Az (Aj e) I.ok.above)
 refine⟨I.ok,I.os,I.bare,⟨fun b o e n hb hx=>(hs.2 b (lt b o e)).trans (I.base.keep b o e n hb hx),fun b o e n hb hx=>?_,I.base.free,fun b o e hx=>?_,I.base.tups,I.base.frzs,I.base.tbls⟩,⟨_,hn',fun j y w e1 e2 e3=>?_⟩,fun y c e=>?_,I.free,I.freeC,fun p hp=>?_,fun b u e=>?_,by rw[Bb];exact I.len⟩
 .obtain⟨sl,e1⟩:=I.base.slot b o e n hb hx
  exact⟨sl,(hs.2 b (lt b o e)).trans e1⟩
 .obtain⟨o',e1⟩:=I.base.there b o e hx
  exact⟨o',(hs.2 b (lt b o e)).trans e1⟩
 .by_cases hj:j=i
  .subst hj
   by_cases hlt:j<σ.length
   .rw[Es hlt]at e2;cases e2
   .rw[Ea (by rw[Bb];lia)]at e2;cases e2
  .rw[D4 (Av hj)]at e2
   obtain⟨u,r,q⟩:=hl j y w e1 e2 e3
   refine⟨u,r,?_⟩
   have ny:y≠n:=fun z=>hj (Hx hN e1 (z ▸ hi))
   rcases q with ⟨k1,k2⟩|⟨k1,c,k2,k3⟩
   .exact .inl ⟨k1,by simp[ny,k2]⟩
   .exact .inr ⟨k1,c,k2,k3.sameBut hs (I.cne y c k2)⟩
 .obtain⟨w',z⟩:=I.cell y c e
  exact⟨w',z.sameBut hs (I.cne y c e)⟩
 .obtain⟨e,n,ne,r⟩:=I.pin p hp
  exact⟨(hs.2 p.1 ne).trans e,n,ne,r⟩
 .refine (I.hok b u e).stay (fun c w' hc q=>(hs.2 c ?_).trans q) (fun _ q=>q) fun _ _ q=>q
  intro z
  rcases hc with y|y
  .rw[<-y,z,I.free]at e;cases e
  .rw[z,I.free]at y;cases y
end
def HJ (CX:yZ) (X:Cx) (σ₀:St) (E:XK):Prop:=∀(pins:AL) (H:Hp) (s:Shared) (e:Value) (s':Shared),Inv X pins σ₀ H s->CX X.stack H s E e s'->X.xe e s'
section
variable {X:Cx} {CX:yZ} {k:Nat} {f C:Addr} {fd:FuncData} {ps:List Str} {sp:Sp} {dvs:List V} {ds:List Value} {E:XK} {x m:Str} {p pos apos:Pos} {e o:Expr} {es:List Expr} {ta:TE} {t:TA} {σ₀:St}
def OH {pins:AL} {H:Hp} {s:Shared} {Q:VK} {us:List Value} {vs:List V} (F:FnOk X.prog X.w X.K X.mg X.base CX k f fd ps sp) (hr:Room k X.A) (hb:Binds X.K fd ps ds) (hd:Vals dvs ds) (hx:HJ CX X σ₀ E)
  (I:Inv X pins σ₀ H s) (r:Vals vs us) (h:sp (vs++dvs) H Q E):wpAny (model X.prog X.w) X.A (call (.ref f) us) (EP X pins σ₀ Q) X.xe s:=by
 have r2:Vals (vs++dvs) (us++ds):=r.append hd;have hl:(us++ds).length=ps.length:=by rw[<-r2.length];exact F.len _ _ _ _ h
 refine Dc (Dd (F.run X.A X.stack s H ⟨us,[]⟩ (us++ds) (vs++dvs) Q E hr I.env0 (hb s us I.kIn hl) r2 h) fun r s' hq=>?_)
 match r,hq with
 |.error e,hq=>exact hx pins H s e s' I hq
 |.ok (.ret u),hq=>exact I.after hq
 |.ok .next,hq=>exact False.elim hq
 |.ok .brk,hq=>exact False.elim hq
 |.ok .cont,hq=>exact False.elim hq
def OI (F:FnOk X.prog X.w X.K X.mg X.base CX k f fd ps sp) (hr:Room k X.A) (hg:Gl X x) (hm:X.mg x=some (.ref f)) (hk:PySem.W.keepIn X.K (.ref f)=true) (hb:Binds X.K fd ps ds) (hd:Vals dvs ds) (hx:HJ CX X σ₀ E)
  (ha:PA X (e::es) t) (hdb:(x==("__debug__" :Str))=false:=by decide) (he:SE X e es:=by rfl) (hpl:BA X pos es:=by rfl):
  PE X (.Call (.Name x p) (e::es) [] pos) (fun σ H Q=>σ=σ₀/\DT sp dvs E t σ H Q):=by
 intro pins s σ H Q I ⟨hσ,h⟩;subst hσ
 refine C1 (AG I hg hm ?_ hdb)
 refine Et (h₀:=X.base) I.ok.mod.kin hk (zn (ha pos pins s σ H _ I h) fun us s1 ⟨vs,H1,I1,r,q⟩=>⟨I1.kIn,?_⟩) he hpl
 exact OH F hr hb hd hx I1 r q
end
def DW (X:Cx) (pn:AL) (σ₀:St) (E:XK):VP:=fun e s1=> ∃pins H s,Inv (X.pinned pn) pins σ₀ H s/\XT X.prog X.w X.stack H s E e s1
def OJ {X:Cx} {pn:AL} {σ₀:St} {E:XK}:HJ (XT X.prog X.w) ((X.pinned pn).wish (DW X pn σ₀ E)) σ₀ E:=fun pins H s e s' I h=>⟨pins,H,s,I.unwish,h⟩
structure Caught (X:Cx) (pins:AL) (σ:St) (H:Hp) (a:Addr) (cls:Value) (dd:Option Addr) (s:Shared):Prop where
 inv:Inv X pins σ H s
 fly:∃B a0,qp B (X.env::X.outer) a cls a0 dd .none s.heap/\∀h',qp B (X.env::X.outer) a cls a0 dd .none h'->s.heap.UpToSlots h'->Inv X pins σ H {s with heap:=h'}
 free:H a=none
 old:X.s₀.heap.get? a=none
 loc:a≠X.env.locals
 cel:∀x c,X.env.cells.lookup x=some c->c≠a
 pin:∀p∈X.pn++pins,p.1≠a
def PHs (X:Cx) (hs:List ExceptHandler) (th:Value->Option Addr->TS):Prop:=∀(pins:AL) (σ:St) (H:Hp) (s:Shared) (D:Ends) (a:Addr) (cls:Value) (dd:Option Addr),Caught X pins σ H a cls dd s->th cls dd D σ H->wpAny (model X.prog X.w) X.A (handleBy (.ref a) X.env hs) (SP X pins D) X.xe s
section
variable {X:Cx} {x:Str} {B:Addr} {np hp pos:Pos} {b:List Stmt} {b₀:Stmt} {suite:List Stmt} {hs:List ExceptHandler} {th:TS} {tr:Value->Option Addr->TS}
abbrev xNil:VP:=fun _ _=>False
def OK (K:FG) (B:Addr) (th:Value->Option Addr->TS) (tr:Value->Option Addr->TS):Value->Option Addr->TS:=fun cls dd D σ H=>(PySem.W.exmOne K cls (.ref B)=some true/\th cls dd D σ H)\/(PySem.W.exmOne K cls (.ref B)=some false/\tr cls dd D σ H)
def Caught.looks {pins:AL} {σ:St} {H:Hp} {a:Addr} {cls:Value} {dd:Option Addr} {s:Shared} {bb:Bool} (c:Caught X pins σ H a cls dd s) (hx:PySem.W.exmOne X.K cls (.ref B)=some bb):PySem.W.Looks (model X.prog X.w) s.heap (excMatches (.ref a) (.ref B)) bb:=by
 obtain⟨Bs,a0,fly,_⟩:=c.fly;obtain⟨_,_,_,ob,_,_,_,_,hob,⟨hobc,_⟩,_⟩:=fly
 refine PySem.W.exm_one c.inv.kIn ?_ hx
 have:=(Eb (M:=model X.prog X.w) (part:=none) hob);rw[<-hobc];exact this.andThen .now
def tAs (i:Nat) (th:TS):Value->Option Addr->TS:=fun cls dd D σ H=> ∀a,H a=none->th {nx:=fun σ' H'=>D.nx (σ'.set i none) H',rt:=D.rt,bk:=fun σ' H'=>D.bk (σ'.set i none) H',ct:=fun σ' H'=>D.ct (σ'.set i none) H'} (σ.set i (some (.ref a))) (zh H a (zV a cls dd))
def OL {i:Nat} {n:Str} (hN:X.N.Nodup) (hi:X.N[i]? =some n) (hlo:Loc X.env.scope n) (hkd:X.env.kindOf n=some .local) (hg:Gl X x) (hm:X.mg x=some (.ref B)) (hs0:∀e,yk ((X.suite e).wish xNil) (b₀::suite) th) (hr:PHs X hs tr) (hd:(x==("__debug__" :Str))=false:=by decide)
  (hf:X.fn n=true\/X.env.scope.names.lookup n=some .local:=by first|exact .inl rfl|exact .inr rfl|assumption):
  PHs X (.ExceptHandler (some (.Name x np)) (some n) (b₀::suite) hp::hs) (OK X.K B (tAs i th) tr):=by
 intro pins σ H s D a cls dd c h
 refine wpAny_handleBy_cons (codeAny_handlers_test (AG (X:=X.suite (.ref a)) (c.inv.suite (.ref a)) hg hm ?_ hd)) (by intro z;cases z)
 rcases h with ⟨hx,h⟩|⟨hx,h⟩
 .refine (c.looks hx).here (codeAny_handlers_suite_as ?_)
  obtain⟨Bs,a0,fly,back⟩:=c.fly
  refine Gr none fly fun h6 fly6 sm6=>?_
  have I6:=back h6 fly6 sm6;obtain⟨_,_,_,oe,vs,T,oT,ts,t1,t2,t3,_⟩:=id fly6;have I7:Inv X pins σ (zh H a (zV a cls dd)) {s with heap:=h6}:=I6.track c.free c.old c.loc c.cel c.pin ⟨⟨oe,vs,t1,t2.1,t3,t2.2.1⟩,⟨oe,t1⟩,fun h1 h2 ⟨o,vs,e,c,d⟩ k=>⟨o,vs,k o e,c,d⟩⟩
  refine Gh (X:=X.suite (.ref a)) (I7.suite (.ref a)) hN hi hlo (v:= .ref a) rfl (fun s8 I8=>?_) hf
  refine A7 (hs0 (.ref a) pins _ _ _ _ (I8.wish xNil) (h a c.free)) (fun f s9 q9=>?_) fun _ _ z=>z.elim
  have I9:SP X pins _ f s9:=SP.conv (fun σ' H' K=>Inv.unsuite c.inv.ok.hd K.unwish) q9
  cases f with
  |next=>obtain⟨σ',H',J,q⟩:=I9;exact Gs J hN hi hkd fun s' J'=>⟨_,_,J',q⟩
  |brk=>obtain⟨σ',H',J,q⟩:=I9;exact Gs J hN hi hkd fun s' J'=>⟨_,_,J',q⟩
  |cont=>obtain⟨σ',H',J,q⟩:=I9;exact Gs J hN hi hkd fun s' J'=>⟨_,_,J',q⟩
  |ret u=>obtain⟨v,σ',H',J,r,q⟩:=I9;exact Gs J hN hi hkd fun s' J'=>⟨_,_,_,J',r,q⟩
 .exact (c.looks hx).here (hr pins σ H s D a cls dd c h)
def OM:PHs X [] (fun _ _ _ _ _=>False):=fun _ _ _ _ _ _ _ _ _ h=>h.elim
def ON {h₀:ExceptHandler} {tb:XK->TS} (hst:X.stack=X.env::X.outer) (hfm:X.env.frame=some X.env.locals) (hex:X.ex=[])
  (hb:∀pn σ₀ E,yk ((X.pinned pn).wish (DW X pn σ₀ E)) b (fun D σ H=>σ=σ₀/\tb E D σ H)) (hh:PHs X (h₀::hs) tr):
  PS X (.Try b (h₀::hs) [] [] pos) (fun D σ H=>tb (fun cls dd H'=>tr cls dd D σ H') D σ H):=by
 intro pins s σ H D I h;have J:Inv ((X.pinned (X.pn++pins)).wish (DW X (X.pn++pins) σ fun cls dd H'=>tr cls dd D σ H')) [] σ H s:=I.inPn.wish _
 refine wpAny_Try_except (A7 (hb (X.pn++pins) σ _ [] s σ H D J ⟨rfl,h⟩) (fun f s1 q=>?_) fun e s1 q=>?_)
 .have q':SP X pins D f s1:=SP.conv (fun σ' H' K=>Inv.unpin K.unwish) q
  cases f with
  |next=>exact Ai q'
  |brk=>exact q'
  |cont=>exact q'
  |ret u=>exact q'
 .obtain⟨pins2,H2,s2,I2,a,T,cls,a0,dd,H',rfl,os,bare,un,hok,na,nT,ha,hT,tr',q⟩:=q
  have I3:Inv (X.pinned (X.pn++pins)) pins2 σ H' s1:=I2.call' os un hok bare fun b z=>nomatch z
  have hfr:s1.heap.FunFrames X.base X.stack:=I3.stack;obtain⟨oe,vs,oT,ts,t1,t2,t3,t4,t6,t7,t8,t9⟩:=tr';have fly:qp (PySem.W.hideAll s1.heap (a::T::z6 X.stack)) X.stack a cls a0 dd .none s1.heap:=
   ⟨fun b o z=>Ep _ z,Do _ (.head _),Fu hfr fun e he b hb=>.tail _ (.tail _ (HF e he b hb)),oe,vs,T,oT,ts,t1,t2,t3,t4,Do _ (.tail _ (.head _)),t6,t7,t8,t9⟩
  have hfrm:X.A.frames=some (X.env::X.outer):=by rw[<-hst];exact I.ok.frames
  have back:∀h',qp (PySem.W.hideAll s1.heap (a::T::z6 X.stack)) X.stack a cls a0 dd .none h'->s1.heap.UpToSlots h'->Inv X pins σ H' {s1 with heap:=h'}:=fun h' f u=>by
   have keep:∀b o,s1.heap.get? b=some o->b∉a::T::z6 X.stack->h'.get? b=some o:=fun b o e n=>f.1 b o (PySem.W.hideAll_get _ e n)
   have slot:∀b o,s1.heap.get? b=some o->b∈z6 X.stack->∃sl,h'.get? b=some {o with slots:=sl}:=fun b o e hb=>by
    refine u b o e fun ws hv=>?_
    obtain⟨_,o',ho',hn⟩:=hfr.mem hb;rw[e]at ho';cases ho';exact hn ws hv
   have un':Un (z6 X.stack) [] H2 H' s2.heap h':=OF un keep slot fun b hb=>by
    rcases Ag.mp hb with z|hb
    .rw[z];exact .inr na
    .rcases Ag.mp hb with z|hb
     .rw[z];exact .inr nT
     .exact .inl hb
   have hok':HOk X.prog X.w H' h':=OG hok keep fun b hb=>by
    rcases Ag.mp hb with z|hb
    .rw[z];exact ha
    .rcases Ag.mp hb with z|hb
     .rw[z];exact hT
     .exact I3.stkFree b hb
   have I4:Inv (X.pinned (X.pn++pins)) pins2 σ H' {s1 with heap:=h'}:=I2.call' os un' hok' bare fun b z=>nomatch z
   exact I4.unpin
  rw[hst]at fly
  refine JV hfrm hfm fly fun h4 held4 sm4=>?_
  refine Gr none held4 fun h5 fly5 sm5=>?_
  have sm45:=sm4.trans sm5;have I5:Inv X pins σ H' {s1 with heap:=h5}:=back h5 (by rw[hst];exact fly5) sm45
  have ne2:∀b o,s2.heap.get? b=some o->b≠a:=fun b o e z=>by rw[z,na]at e;cases e
  refine hh pins σ H' _ D a cls dd ⟨I5,⟨_,_,fly5,fun h' f u=>back h' (by rw[hst];exact f) (sm45.trans u)⟩,ha,?_,?_,?_,?_⟩ q
  .cases z:X.s₀.heap.get? a with
   |none=>rfl
   |some o=>
    have U:=I2.base;obtain⟨o',q'⟩:=U.there a o z fun y=>by rw[show (X.pinned (X.pn++pins)).ex=X.ex from rfl,hex]at y;cases y
    rw[na]at q';cases q'
  .intro z
   obtain⟨m,⟨o,es,ep,e,_⟩,_⟩:=I2.loc;exact ne2 _ o e z.symm
  .intro y c e z
   obtain⟨w',hw⟩:=I2.cell y c e;obtain⟨o,e1,_⟩:=hw;exact ne2 _ o e1 z
  .intro p hp z
   have e:=(I2.pin p (B8 _ hp)).1;exact ne2 _ _ e z
end
structure ExK (K:FG) (C:Addr):Prop where
 it:(PySem.W.clsIn K C).isSome=true
 ga:PySem.W.findIn K (.ref C) "__getattribute__" =some (some (.builtin "BaseException.__getattribute__"))
 gn:PySem.W.findIn K (.ref C) "__getattr__" =some none
 gc:PySem.W.findIn K (.ref C) "__class__" =some (some (.builtin "object.__class__"))
 sb:PySem.W.subIn K (.ref C) (.type "BaseException")=some true
 so:PySem.W.subIn K (.ref C) (.type "object")=some true
 sw:PySem.W.subIn K (.ref C) (.type "ValueError")=some true
section
variable {K:FG} {prog:Program} {w:World} {A:Around} {E:VP} {h:Heap} {g:Array GenState} {d:Drawn} {t:Nat} {os:OsState} {a C:Addr} {o:Obj}
def OO {R:Result->Shared->Prop} (z:ExK K C) (X:K.In h) (hx:h.get? a=some o) (hc:o.cls=.ref C) (hq:R (.ok (.ret (.ref C))) ⟨h,g,d,t,os⟩):
  codeAny (model prog w) A (.call (.builtin "getset_descriptor.__get__") ⟨[.builtin "object.__class__",.ref a,.ref C],[]⟩) R ⟨h,g,d,t,os⟩:=by
 have hT5:(⟨h,g,d,t,os⟩:Shared).TypeIs (.builtin "object.__class__") "getset_descriptor" :=Fv;have so:PySem.W.subIn K (.ref C) (.type (".".intercalate ("object.__class__".cutAt '.').dropLast))=some true:=by rw[F.owner_object_class];exact z.so
 refine Ec F.slot_gs_get.plain F.entry_gs_get (F.slot_gs_get.check _ _ _ _ _ _ _ _ hT5 (F.args_gs_get _ _ _) ?_)
 repeat (any_goals (first|assumption|(with_reducible refine Bw hx ?_;rw[hc])|with_reducible refine (Ed X so).at ?_|wp_step))
 refine⟨Code.quiet_builtin _ (by decide+kernel),codeAny_builtin F.entry_object_class ?_⟩
 repeat (any_goals (first|assumption|(with_reducible refine Bw hx ?_;rw[hc])|wp_step))
def OP {tk:Tok} {Q:Fin->Shared->Prop} (z:ExK K C) (X:K.In h) (hx:h.get? a=some o) (hc:o.cls=.ref C) (hq:Q (.done (.ret (.ref C))) ⟨h,g,d,t,os⟩):
  wpAny (model prog w) A (Builtin.«object.__getattribute__» ⟨[.ref a,.str "__class__" tk],[]⟩) Q E ⟨h,g,d,t,os⟩:=by
 have hT5:(⟨h,g,d,t,os⟩:Shared).TypeIs (.builtin "object.__class__") "getset_descriptor" :=Fv;have f5:=Fv;have f6:=F.slot_gs_get.lookup;have f7:=F.slot_gs_set.lookup
 repeat (any_goals (first|assumption|(with_reducible refine Bw hx ?_;rw[hc])|with_reducible refine (Cq X z.gc).at ?_|wp_step))
 refine OO z X hx hc ?_
 repeat (any_goals (first|assumption|wp_step))
def OQ {tk:Tok} {R:Result->Shared->Prop} (z:ExK K C) (X:K.In h) (hx:h.get? a=some o) (hc:o.cls=.ref C) (hq:R (.ok (.ret (.ref C))) ⟨h,g,d,t,os⟩):
  codeAny (model prog w) A (.call (.builtin "BaseException.__getattribute__") ⟨[.ref a,.str "__class__" tk],[]⟩) R ⟨h,g,d,t,os⟩:=by
 have hp:plainId "BaseException.__getattribute__" =true:=by decide+kernel
 have hk:builtinKind "BaseException.__getattribute__" =some .slot:=by decide+kernel
 have hs:splitId "BaseException.__getattribute__" =some ("BaseException","__getattribute__"):=by decide+kernel
 refine Ec hp F.entry_bexc_ga ?_
 have ha:=F.args_bexc_ga (.ref a) (.str "__class__" tk);have l:PySem.W.Looks (model prog w) h (typeOf (.ref a)) (.ref C):=by
  have q:=Eb (M:=model prog w) (part:=none) hx;rw[<-hc];exact q.andThen .now
 have li:PySem.W.Looks (model prog w) h (isInstance (.ref a) (.type "BaseException")) true:=l.andThen (Ed X z.sb);exact PySem.W.check_slot (i:="BaseException.__getattribute__") (owner:="BaseException") (n:="__getattribute__") (self:= .ref a) (rest:=[.str "__class__" tk]) (kw:=[]) hk hs li ha (OP z X hx hc hq)
def OR {tk:Tok} {fill:Bool} {Q:VP} (z:ExK K C) (X:K.In h) (hx:h.get? a=some o) (hc:o.cls=.ref C) (hq:Q (.ref C) ⟨h,g,d,t,os⟩):
  wpAny (model prog w) A (getAttrBy (.ref a) (.str "__class__" tk) fill) Q E ⟨h,g,d,t,os⟩:=by
 have f3:bindSpecial (.builtin "BaseException.__getattribute__") (.ref a)=pure (.builtin "BaseException.__getattribute__",[.ref a]):=by kernel_rfl
 have hx2:(Value.builtin "BaseException.__getattribute__" ==Value.builtin "object.__getattribute__")=false:=by decide+kernel
 have hx1:(onTheHeap (Value.ref C) && Value.builtin "BaseException.__getattribute__" ==Value.builtin "object.__getattribute__")=false:=by rw[hx2];rfl
 repeat (any_goals (first|assumption|(with_reducible refine Bw hx ?_;rw[hc])|with_reducible refine (Cq X z.ga).at ?_|with_reducible refine (Cq X z.gn).at ?_|wp_step))
 refine OQ z X hx hc ?_
 repeat (any_goals (first|assumption|wp_step))
def OS {Q:Option Value->Shared->Prop} (z:ExK K C) (X:K.In h) (hx:h.get? a=some o) (hc:o.cls=.ref C) (hq:Q (some (.ref C)) ⟨h,g,d,t+1,os⟩):wpAny (model prog w) A (getAttr? (.ref a) "__class__") Q E ⟨h,g,d,t,os⟩:=by
 unfold getAttr? getAttrBy?
 repeat (any_goals (first|assumption|with_reducible refine OR z X hx hc ?_|wp_step))
def OT (z:ExK K C):PySem.W.KitX K (.ref a) (.ref C) (HI a (.ref C) dd) where
 ty:=fun M h _ ⟨o,vs,hx,hc,_⟩=>by
  have q:=Eb (M:=M) (part:=none) hx;rw[<-hc];exact q.andThen .now
 it:=fun M h X _=>by
  have e:=z.it;unfold PySem.W.clsIn at e
  split at e
  .rename_i c' d' cd' sl' ho
   intro A' Q' E' s' k q;unfold isType loadHead;exact Ae (wpAny_loadPart (k _ _ (X _ _ ho)) (Ai q))
  .cases e
 ne:=fun h tp dd its n sl X htp=>by
  refine Bool.eq_false_iff.mpr fun q=>?_
  cases Value.ref.inj (Af.mp q);have e:=z.it;unfold PySem.W.clsIn at e
  split at e
  .rename_i c' d' cd' sl' ho
   cases (X _ _ ho).symm.trans htp
  .cases e
 ca:=fun {_ _ _ _ _ s} X ⟨o,vs,hx,hc,_⟩ k=>by
  obtain⟨h,g,d,t,os⟩:=s;exact OS z X hx hc k
def JX {X:Cx} {pins:AL} {σ:St} {H:Hp} {s:Shared} {Q:VP} {c:Value} {b:Bool} (z:ExK X.K C) (I:Inv X pins σ H s) (ha:H a=some (zV a (.ref C) dd)) (e:PySem.W.kitOne X.K (.ref C) c=some b) (hq:∀tk,Q (.bool b) {s with toks:=tk}):
  wpAny (model X.prog X.w) A (call (.builtin "isinstance") [.ref a,c]) Q E s:=by
 obtain⟨p,_⟩:=(show ObjOk X.prog X.w H s.heap a (zV a (.ref C) dd) from I.hok a _ ha)
 exact B0 (OT z) I.kIn p e (fun z=>nomatch z) hq
end
noncomputable def DX:List Value->Bool
 |.ref _::r=>DX r
 |l=>l==qI
structure ExN (K:FG) (C:Addr):Prop extends ExK K C where
 gm:PySem.W.findIn K (.ref C) "name" =some none
 hd:(PySem.W.clsIn K C).any (fun cd=>cd.hasDict && DX cd.mro)=true
 sa:PySem.W.findIn K (.ref C) "__setattr__" =some (some (.builtin "object.__setattr__"))
section
variable {K:FG} {prog:Program} {w:World} {A:Around} {E:VP} {h:Heap} {g:Array GenState} {d:Drawn} {t:Nat} {os:OsState} {a C D:Addr} {vs:Array Value} {sl:Array (Option Value)} {m:Str->Option Value} {v:Value}
def OU {tk:Tok} {Q:Fin->Shared->Prop} (z:ExN K C) (X:K.In h) (hx:h.get? a=some ⟨.ref C,some D,.fields vs,sl⟩) (hn:h.Ns D m) (hv:m "name" =some v) (hq:Q (.done (.ret v)) ⟨h,g,d,t,os⟩):
  wpAny (model prog w) A (Builtin.«object.__getattribute__» ⟨[.ref a,.str "name" tk],[]⟩) Q E ⟨h,g,d,t,os⟩:=by
 obtain⟨cd,hc,hd⟩:=PySem.W.any_some z.hd;rw[As]at hd;have hd1:=hd.1;have lc:=PySem.W.looks_clsIn (M:=model prog w) X hc
 repeat (any_goals (first|assumption|with_reducible refine Bw hx ?_|with_reducible refine (Cq X z.gm).at ?_|with_reducible refine lc.at ?_|(with_reducible refine wpAny_nsGet (s:=⟨h,g,d,t,os⟩) hn ?_;rw[hv])|wp_step))
def OV {tk:Tok} {R:Result->Shared->Prop} (z:ExN K C) (X:K.In h) (hx:h.get? a=some ⟨.ref C,some D,.fields vs,sl⟩) (hn:h.Ns D m) (hv:m "name" =some v) (hq:R (.ok (.ret v)) ⟨h,g,d,t,os⟩):
  codeAny (model prog w) A (.call (.builtin "BaseException.__getattribute__") ⟨[.ref a,.str "name" tk],[]⟩) R ⟨h,g,d,t,os⟩:=by
 have hp:plainId "BaseException.__getattribute__" =true:=by decide+kernel
 have hk:builtinKind "BaseException.__getattribute__" =some .slot:=by decide+kernel
 have hs:splitId "BaseException.__getattribute__" =some ("BaseException","__getattribute__"):=by decide+kernel
 refine Ec hp F.entry_bexc_ga ?_
 have ha:=F.args_bexc_ga (.ref a) (.str "name" tk);have l:PySem.W.Looks (model prog w) h (typeOf (.ref a)) (.ref C):=(Eb (M:=model prog w) (part:=none) hx).andThen .now;have li:PySem.W.Looks (model prog w) h (isInstance (.ref a) (.type "BaseException")) true:=l.andThen (Ed X z.sb);exact PySem.W.check_slot (i:="BaseException.__getattribute__") (owner:="BaseException") (n:="__getattribute__") (self:= .ref a) (rest:=[.str "name" tk]) (kw:=[]) hk hs li ha (OU z X hx hn hv hq)
def OW {expr:Bool} {Q:VP} (z:ExN K C) (X:K.In h) (hx:h.get? a=some ⟨.ref C,some D,.fields vs,sl⟩) (hn:h.Ns D m) (hv:m "name" =some v) (hh:handedOut v=pure v) (hq:Q v ⟨h,g,d,t+1,os⟩):
  wpAny (model prog w) A (getAttr (.ref a) "name" expr) Q E ⟨h,g,d,t,os⟩:=by
 have f3:bindSpecial (.builtin "BaseException.__getattribute__") (.ref a)=pure (.builtin "BaseException.__getattribute__",[.ref a]):=by kernel_rfl
 have hx0:(expr && onTheHeap (Value.builtin "BaseException.__getattribute__"))=false:=by cases expr<;>rfl
 have hx2:(Value.builtin "BaseException.__getattribute__" ==Value.builtin "object.__getattribute__")=false:=by decide+kernel
 have hx1:(onTheHeap (Value.ref C) && Value.builtin "BaseException.__getattribute__" ==Value.builtin "object.__getattribute__")=false:=by rw[hx2];rfl
 unfold getAttr
 repeat (any_goals (first|assumption|with_reducible refine Bw hx ?_|with_reducible refine (Cq X z.ga).at ?_|with_reducible refine (Cq X z.gn).at ?_|wp_step))
 refine OV z X hx hn hv ?_
 repeat (any_goals (first|assumption|wp_step))
end
def OX (self:Value):refuseLoop self "__setattr__" qI=pure ():=by kernel_rfl
theorem JY (self:Value):∀{l:List Value},DX l=true->refuseLoop self "__setattr__" l=pure ()
 | [],e=>by simp[DX]at e
 |x::r,e=>by
  cases x with
  |ref c=>rw[refuseLoop_ref];exact JY self (l:=r) e
  |_=>rw[show (_::r:List Value)=qI from Af.mp e];exact OX self
section
variable {K:FG} {prog:Program} {w:World} {A:Around} {E:VP} {h:Heap} {g:Array GenState} {d:Drawn} {t:Nat} {os:OsState} {a C D:Addr} {vs:Array Value} {sl:Array (Option Value)} {m:Str->Option Value} {v:Value}
def OY {tk:Tok} {Q:Fin->Shared->Prop} (z:ExN K C) (X:K.In h) (hx:h.get? a=some ⟨.ref C,none,.fields vs,sl⟩)
  (hq:∀h' tk',h'.get? a=some ⟨.ref C,some h.objs.size,.fields vs,sl⟩->h'.Ns1 h.objs.size (fun y=>if y="name" then some v else none)->(∀b o,b≠a->h.get? b=some o->h'.get? b=some o)->Q (.done (.ret .none)) ⟨h',g,d,tk',os⟩):
  wpAny (model prog w) A (Builtin.«object.__setattr__» ⟨[.ref a,.str "name" tk,v],[]⟩) Q E ⟨h,g,d,t,os⟩:=by
 obtain⟨cd,hc,hd⟩:=PySem.W.any_some z.hd;rw[As]at hd;have hd1:=hd.1;have hpass:=JY (.ref a) hd.2;have lc:=PySem.W.looks_clsIn (M:=model prog w) X hc;have lm:PySem.W.Looks (model prog w) h (mroOf (.ref C)) cd.mro:=lc.andThen .now;have hx1:(h.push {cls:= .type "dict",data:= .dict #[]}).get? a=some ⟨.ref C,none,.fields vs,sl⟩:=Ao _ hx;have hxs:a≠h.objs.size:=Au (Aj hx);have hgd:((h.push {cls:= .type "dict",data:= .dict #[]}).update a fun o=>{cls:=o.cls,dict:=some h.objs.size,data:=o.data,slots:=o.slots}).get? h.objs.size=some {cls:= .type "dict",data:= .dict #[]}:=(Heap.get?_update_ne _ _ _ _ hxs.symm).trans (Heap.get?_push_at rfl rfl)
 have hnd:((h.push {cls:= .type "dict",data:= .dict #[]}).update a fun o=>{cls:=o.cls,dict:=some h.objs.size,data:=o.data,slots:=o.slots}).Ns h.objs.size (fun _=>none):=⟨_,#[],_,hgd,rfl,fun e he=>absurd he (by simp),fun _=>rfl⟩
 have hxa:((h.push {cls:= .type "dict",data:= .dict #[]}).update a fun o=>{cls:=o.cls,dict:=some h.objs.size,data:=o.data,slots:=o.slots}).get? a=some ⟨.ref C,some h.objs.size,.fields vs,sl⟩:=D7 _ hx1 rfl
 unfold Builtin.«object.__setattr__»
 repeat (first|rw[refuse_eq] | (rw[hpass])|with_reducible refine Bw hx ?_|with_reducible refine lm.at ?_|with_reducible refine (Cq X z.gm).at ?_|with_reducible refine lc.at ?_|with_reducible refine wpAny_nsSet1 (s:=⟨_,g,d,t,os⟩) (Heap.Ns1.of_empty hnd) fun h' hn' hs=>?_|wp_step)
 obtain⟨oD,esD,epD,hoD,hdD,hcD⟩:=hn'.count (Within.cons "name" v Within.nil);have hpl:oD.data.pastItsLine=none:=by rw[hdD];exact pastItsLine_dict (Nat.le_trans hcD (by rw[Ay,C5,Ci];lia))
 refine Bw hoD ?_
 rw[hpl]
 refine Ai (Ai ?_)
 exact hq h' _ ((hs.2 a hxs).trans hxa) hn' fun b o hb e=>(hs.2 b (Au (Aj e))).trans ((Heap.get?_update_ne _ _ _ _ hb).trans (Ao _ e))
def OZ {Q:Unit->Shared->Prop} (z:ExN K C) (X:K.In h) (hx:h.get? a=some ⟨.ref C,none,.fields vs,sl⟩)
  (hq:∀h' tk',h'.get? a=some ⟨.ref C,some h.objs.size,.fields vs,sl⟩->h'.Ns1 h.objs.size (fun y=>if y="name" then some v else none)->(∀b o,b≠a->h.get? b=some o->h'.get? b=some o)->Q () ⟨h',g,d,tk',os⟩):
  wpAny (model prog w) A (setAttr (.ref a) "name" v) Q E ⟨h,g,d,t,os⟩:=by
 have I:PySem.W.InstAt h a ⟨.ref C,none,.fields vs,sl⟩ C none:=⟨hx,rfl,rfl,trivial⟩;have SF:=PySem.F.store_object;have l:PySem.W.Looks (model prog w) h (typeOf (.ref a)) (.ref C):=(Eb (M:=model prog w) (part:=none) hx).andThen .now;have li:PySem.W.Looks (model prog w) h (isInstance (.ref a) (.type "object")) true:=l.andThen (Ed X z.so)
 refine PySem.W.set_plain (s:=⟨h,g,d,t,os⟩) X I z.sa (Ec SF.slot.plain SF.entry (PySem.W.check_slot (i:="object.__setattr__") (owner:="object") (n:="__setattr__") (self:= .ref a) (rest:=[.str "name" t,v]) (kw:=[]) SF.kind SF.split li (SF.args (.ref a) (.str "name" t) v) ?_))
 exact OY z X hx hq
end
section
variable {K:FG} {prog:Program} {w:World} {A:Around} {E:VP} {h:Heap} {g:Array GenState} {d:Drawn} {t:Nat} {os:OsState} {a C D:Addr} {vs:Array Value} {sl:Array (Option Value)} {m:Str->Option Value} {v x:Value} {dd:Option Addr}
def cls_at (X:K.In h) (e:(PySem.W.clsIn K C).isSome=true):∃c d cd sl,h.get? C=some ⟨c,d,.cls cd,sl⟩:=by
 unfold PySem.W.clsIn at e
 split at e
 .rename_i c' d' cd' sl' ho
  exact⟨c',d',cd',sl',X _ _ ho⟩
 .cases e
def Pa {M:Model} {Q:Unit->Shared->Prop} (si:(PySem.W.clsIn K C).isSome=true) (sv:PySem.W.subIn K (.ref C) (.type "ValueError")=some true) (X:K.In h) (hx:h.get? a=some ⟨.ref C,dd,.fields vs,sl⟩) (hq:Q () ⟨h,g,d,t,os⟩):wpAny M A (checkBuiltinCall "ValueError.__init__" ⟨[.ref a,x],[]⟩) Q E ⟨h,g,d,t,os⟩:=by
 have FB:=D9;have hshort:=FB.noStar;have ls:=Ed (M:=M) X sv;obtain⟨c1,d1,cd1,sl1,hC⟩:=cls_at X si;simp only[checkBuiltinCall,FB.initKind,FB.initSplit,FB.initRow]
 repeat (first|with_reducible refine Bw hx ?_|with_reducible refine Bw hC ?_|with_reducible refine ls.at ?_|wp_step)
 exact hq
def Pb {R:Result->Shared->Prop} (si:(PySem.W.clsIn K C).isSome=true) (sv:PySem.W.subIn K (.ref C) (.type "ValueError")=some true) (X:K.In h) (hx:h.get? a=some ⟨.ref C,dd,.fields vs,sl⟩) {t0:Addr} (hv:vs[0]? =some (.ref t0))
  (hq:∀h',h'.get? a=some ⟨.ref C,dd,.fields (vs.setIfInBounds 0 (.ref h.objs.size)),sl⟩->(∀b o,b≠a->h.get? b=some o->h'.get? b=some o)->R (.ok (.ret .none)) ⟨h',g,d,t,os⟩):
  codeAny (model prog w) A (.call (.builtin "ValueError.__init__") ⟨[.ref a,x],[]⟩) R ⟨h,g,d,t,os⟩:=by
 have FB:=D9
 refine Ec FB.init.plain FB.initEntry (Pa si sv X hx ?_)
 wp_walk
 rw[hv];have hx1:=Ao (h:=h) {cls:= .type "tuple",data:= .seq #[x]} hx;have hsz:0<vs.size:=(Dr.mp hv).1
 refine Ai (Ae (Ez hx1 rfl hsz ?_))
 refine wpAny_letGo (Ai (hq _ ?_ fun b o hb e=>?_))
 .exact D7 _ hx1 rfl
 .exact (Dg _ _ (Av hb)).trans (Ao _ e)
end
section
variable {X:Cx} {pins:AL} {σ:St} {H:Hp} {s:Shared} {a:Addr} {y v:V} {u r:Value} {o:Option V} {A:Around} {E:VP}
def Inv.big (I:Inv X pins σ H s):sysModules<s.heap.objs.size:=by
 have h:mainGlobals<s.heap.objs.size:=(I.mod.glob.keeps I.bk).lt;exact Nat.lt_trans (by decide) h
end
def Pc {P:Program} {w:World} {H:Hp} (h:Heap) (hb:sysModules<h.objs.size):ObjOk P w H (h.push {cls:= .type "dict",data:= .dict #[]}) h.objs.size (.dT []):=
 ⟨B9 _,D2.mpr (Av (Au hb)),[],.nil,_,#[],0,Bn _ rfl,⟨rfl,rfl,rfl⟩,rfl,rfl,Fb,rfl⟩
def Pd:TE:=fun _ H Q=> ∀p,H p=none->Q (.ref p) (zh H p (.dT []))
section
variable {X:Cx} {pos:Pos}
def Pe:PE X (.Dict [] [] pos) Pd:=fun pins s σ H Q I h=>
 wpAny_Dict_empty ⟨.ref s.heap.objs.size,_,I.laid (a:=s.heap.objs.size) (o:= .dT []) (t':=s.toks) (fun _ _ q=>Ao _ q) (Nat.le_refl _) (Pc s.heap I.big),rfl,h _ (I.hok.fresh (Nat.le_refl _))⟩
end
section
variable {X:Cx} {tg:Expr}
def rSlS:V->Option Int->Option Int->Hp->VK->Prop:=fun x lo hi H Q=> ∃z,x=.str z/\z.length<=sizeLine/\Q (.str (Txt.slice z lo hi)) H
def JZ {v:Value} {o:Option Int} (h:IsPart v o):∃p:Option (Int×Tok),v=partValue p/\p.map (·.1)=o:=by
 cases h with
 |none=>exact⟨none,rfl,rfl⟩
 |int i t=>exact⟨some (i,t),rfl,rfl⟩
def Pf:SlR X rSlS:=by
 intro pins s σ H x v vl vu lo hi sl Q I rx hs pl pu h;obtain⟨z,rfl,hz,q⟩:=h;obtain⟨t,rfl⟩:=rx;obtain⟨p,rfl,rfl⟩:=JZ pl;obtain⟨p',rfl,rfl⟩:=JZ pu
 refine⟨"str",_,slot_str_getitem.lookup,typeIs_str _ _ _,?_⟩
 refine wpAny_getItem_str_slice (l:=p) (u:=p') (st:=none) hs rfl ?_
 exact post_val_or_str ⟨Nat.le_trans (Txt.slice_le z _ _) hz,fun t' k=>⟨.str (Txt.slice z (p.map (·.1)) (p'.map (·.1))),H,I.tok k,⟨t',rfl⟩,q⟩⟩
end
end L2
namespace Ts
open PySem PySem.W PyProof.Rows
noncomputable def qm:Bool->Keyed->Array Keyed->Nat->Nat->Nat->StateT SortSt Sem (Option Nat):=sortPriv% PySem.Builtin.gallop
noncomputable def bey (lf:Bool) (ke:Keyed) (xs:Array Keyed) (st0 i:Nat):StateT SortSt Sem (Option Bool):=do
 let x <-elem' xs (st0+i)
 if lf then lt' x ke
 else
  let r <-lt' ke x
  return r.map (!·)
def Pg (lf:Bool) (ke:Keyed) (xs:Array Keyed) (st0 n hi0:Nat):qm lf ke xs st0 n hi0=(do
 let mut la:=0
 let mut of:=1
 let mut l:=0
 let mut h:=0
 let some ri <-bey lf ke xs st0 hi0
  |return none
 if ri then
  let mx:=n-hi0
  for _ in [0:n] do
   if of≥mx then break
   let some mo <-bey lf ke xs st0 (hi0+of)
    |return none
   if !mo then break
   la:=of
   of:=2*of+1
  l:=hi0+la+1
  h:=hi0+min of mx
 else
  let mx:=hi0+1
  for _ in [0:n] do
   if of≥mx then break
   let some fo <-bey lf ke xs st0 (hi0-of)
    |return none
   if fo then break
   la:=of
   of:=2*of+1
  l:=hi0+1-min of mx
  h:=hi0-la
 for _ in [0:n] do
  if l≥h then break
  let m:=l+(h-l) / 2
  let some mo <-bey lf ke xs st0 m
   |return none
  if mo then l:=m+1 else h:=m
 return some h):=rfl
section
variable {prog:Program} {w:World} {A:Around} {E:VP} {s:Shared} {κt:Type} {lt:κt->κt->Bool} {kf:Keyed->κt} {κ0:SortKind} {it:Array Keyed}
def Cmp (prog:Program) (w:World) (A:Around) (E:VP) (s:Shared) (lt:κt->κt->Bool) (kf:Keyed->κt) (κ0:SortKind) (it:Array Keyed):Prop:=
 ∀(x y:Keyed) (st:SortSt) (Q:Option Bool->SortSt->Prop),x∈it.toList->y∈it.toList->kindOf st=κ0->Q (some (lt (kf x) (kf y))) st->wpS (model prog w) A E s (lt' x y) Q st
def yy {xs:Array Keyed} {i:Nat} {x:Keyed} {Q:Keyed->SortSt->Prop} {st:SortSt} (h:xs[i]? =some x) (q:Q x st):wpS (model prog w) A E s (elem' xs i) Q st:=by
 rw[elem'_eq,h];exact Ad q
noncomputable def beh (lt:κt->κt->Bool) (lf:Bool) (k:κt) (x:κt):Bool:=if lf then lt x k else !lt k x
def Ph (hc:Cmp prog w A E s lt kf κ0 it) {lf:Bool} {ke:Keyed} {xs:Array Keyed} {st0 i:Nat} {x:Keyed} {Q:Option Bool->SortSt->Prop} {st:SortSt} (hk:kindOf st=κ0) (hke:ke∈it.toList) (h:xs[st0+i]? =some x) (hx:x∈it.toList)
  (q:Q (some (beh lt lf (kf ke) (kf x))) st):wpS (model prog w) A E s (bey lf ke xs st0 i) Q st:=by
 unfold bey
 refine Ac (yy h ?_)
 unfold beh at q;cases lf with
 |true=>rw[Aa rfl];exact hc x ke st Q hx hke hk q
 |false=>
  rw[Ab (by simp)]
  exact Ac (hc ke x st _ hke hx hk (Ad q))
def Ka (hc:Cmp prog w A E s lt kf κ0 it) {lf:Bool} {ke:Keyed} {xs:Array Keyed} {st0 n hi0:Nat} {Q:Option Nat->SortSt->Prop} {st:SortSt} (hk:kindOf st=κ0) (hke:ke∈it.toList) (hh:hi0<n)
  (hx:∀i,i<n->∃x,xs[st0+i]? =some x/\x∈it.toList) (B:Nat->Bool) (hB:∀i x,i<n->xs[st0+i]? =some x->B i=beh lt lf (kf ke) (kf x)) (hm:∀i j,i<=j->j<n->B j=true->B i=true)
  (q:∀k,k<=n->(∀i,i<k->B i=true)->(∀i,k<=i->i<n->B i=false)->Q (some k) st):wpS (model prog w) A E s (qm lf ke xs st0 n hi0) Q st:=by
 have ask:∀(i:Nat) (Q':Option Bool->SortSt->Prop),i<n->Q' (some (B i)) st->wpS (model prog w) A E s (bey lf ke xs st0 i) Q' st:=fun i Q' hi h=>by
  obtain⟨x,ex,mx⟩:=hx i hi;rw[hB i x hi ex]at h;exact Ph hc hk hke ex mx h
 have hmf:∀i j,i<=j->j<n->B i=false->B j=false:=fun i j hij hj hf=>by
  cases e:B j with
  |false=>rfl
  |true=>rw[hm i j hij hj e]at hf;cases hf
 rw[Pg]
 refine Ac (ask hi0 _ hh ?_)
 cases e0:B hi0 with
 |true=>
  dsimp only;rw[Aa rfl]
  refine Ac (Bg (Bh (I:=fun x c st'=>st=st'/\∃la of,c=(none,la,of)/\la<of/\x+1<=of/\(hi0+la<n)/\B (hi0+la)=true)
   (Q:=fun c st'=>st=st'/\∃la of,c=(none,la,of)/\la<of/\hi0+la<n/\B (hi0+la)=true/\(of≥n-hi0\/B (hi0+of)=false)) ?_ ?_ ?_) ?_)
  .rintro x c st' _ hxn ⟨rfl,la,of,rfl,h1,h2,h3,h4⟩
   dsimp only
   by_cases hge:of≥n-hi0
   .rw[Aa hge]
    exact Ad ⟨rfl,la,of,rfl,h1,h3,h4,.inl hge⟩
   .rw[Ab hge]
    refine Ac (ask _ _ (by lia) ?_)
    cases e:B (hi0+of) with
    |true=>
     dsimp only;exact Ad ⟨rfl,_,_,rfl,by lia,by lia,by lia,e⟩
    |false=>
     dsimp only;exact Ad ⟨rfl,la,of,rfl,h1,h3,h4,.inr e⟩
  .rintro c st' ⟨rfl,la,of,rfl,h1,h2,h3,h4⟩
   exact⟨rfl,la,of,rfl,h1,h3,h4,.inl (by lia)⟩
  .exact⟨rfl,0,1,rfl,by lia,by lia,by lia,e0⟩
  .rintro c st' ⟨rfl,la,of,rfl,h1,h3,h4,h5⟩
   dsimp only
   refine Ac (Bg (Bh (I:=fun x c st'=>st=st'/\∃l h,c=(none,l,h)/\l<=h/\h<=n/\h-l<=n-x/\(∀i,i<l->B i=true)/\(∀i,h<=i->i<n->B i=false))
    (Q:=fun c st'=>st=st'/\∃k,c=(none,k,k)/\k<=n/\(∀i,i<k->B i=true)/\(∀i,k<=i->i<n->B i=false)) ?_ ?_ ?_) ?_)
   .rintro x c st' _ hxn ⟨rfl,l,h,rfl,hl,hn,hm',hlo,hhi⟩
    dsimp only
    by_cases hge:l≥h
    .rw[Aa hge]
     have:l=h:=by lia
     subst this;exact Ad ⟨rfl,l,rfl,hn,hlo,hhi⟩
    .rw[Ab hge]
     refine Ac (ask _ _ (by lia) ?_)
     cases e:B (l+(h-l) / 2) with
     |true=>
      dsimp only;rw[Aa rfl];exact Ad ⟨rfl,_,_,rfl,by lia,hn,by lia,fun i hi=>hm i (l+(h-l) / 2) (by lia) (by lia) e,hhi⟩
     |false=>
      dsimp only;rw[Ab (by simp)]
      exact Ad ⟨rfl,_,_,rfl,by lia,by lia,by lia,hlo,fun i hi hin=>hmf _ i hi hin e⟩
   .rintro c st' ⟨rfl,l,h,rfl,hl,hn,hm',hlo,hhi⟩
    have:l=h:=by lia
    subst this;exact⟨rfl,l,rfl,hn,hlo,hhi⟩
   rotate_left
   .rintro c st' ⟨rfl,k,rfl,hk',hlo,hhi⟩
    exact Ad (q k hk' hlo hhi)
   refine⟨rfl,hi0+la+1,hi0+min of (n-hi0),rfl,by lia,by lia,by lia,(fun i hi=>hm i (hi0+la) (by lia) h3 h4),(fun i hi hin=>?_)⟩
   rcases h5 with h5|h5
   .lia
   .exact hmf (hi0+of) i (by lia) hin h5
 |false=>
  dsimp only;rw[Ab (by simp)]
  refine Ac (Bg (Bh (I:=fun x c st'=>st=st'/\∃la of,c=(none,la,of)/\la<of/\x+1<=of/\la<=hi0/\B (hi0-la)=false)
   (Q:=fun c st'=>st=st'/\∃la of,c=(none,la,of)/\la<of/\la<=hi0/\B (hi0-la)=false/\(of≥hi0+1\/(of<=hi0/\B (hi0-of)=true))) ?_ ?_ ?_) ?_)
  .rintro x c st' _ hxn ⟨rfl,la,of,rfl,h1,h2,h3,h4⟩
   dsimp only
   by_cases hge:of≥hi0+1
   .rw[Aa hge]
    exact Ad ⟨rfl,la,of,rfl,h1,h3,h4,.inl hge⟩
   .rw[Ab hge]
    refine Ac (ask _ _ (by lia) ?_)
    cases e:B (hi0-of) with
    |true=>
     dsimp only;rw[Aa rfl];exact Ad ⟨rfl,la,of,rfl,h1,h3,h4,.inr ⟨by lia,e⟩⟩
    |false=>
     dsimp only;rw[Ab (by simp)]
     exact Ad ⟨rfl,_,_,rfl,by lia,by lia,by lia,e⟩
  .rintro c st' ⟨rfl,la,of,rfl,h1,h2,h3,h4⟩
   exact⟨rfl,la,of,rfl,h1,h3,h4,.inl (by lia)⟩
  .exact⟨rfl,0,1,rfl,by lia,by lia,by lia,e0⟩
  .rintro c st' ⟨rfl,la,of,rfl,h1,h3,h4,h5⟩
   dsimp only
   refine Ac (Bg (Bh (I:=fun x c st'=>st=st'/\∃l h,c=(none,l,h)/\l<=h/\h<=n/\h-l<=n-x/\(∀i,i<l->B i=true)/\(∀i,h<=i->i<n->B i=false))
    (Q:=fun c st'=>st=st'/\∃k,c=(none,k,k)/\k<=n/\(∀i,i<k->B i=true)/\(∀i,k<=i->i<n->B i=false)) ?_ ?_ ?_) ?_)
   .rintro x c st' _ hxn ⟨rfl,l,h,rfl,hl,hn,hm',hlo,hhi⟩
    dsimp only
    by_cases hge:l≥h
    .rw[Aa hge]
     have:l=h:=by lia
     subst this;exact Ad ⟨rfl,l,rfl,hn,hlo,hhi⟩
    .rw[Ab hge]
     refine Ac (ask _ _ (by lia) ?_)
     cases e:B (l+(h-l) / 2) with
     |true=>
      dsimp only;rw[Aa rfl];exact Ad ⟨rfl,_,_,rfl,by lia,hn,by lia,fun i hi=>hm i (l+(h-l) / 2) (by lia) (by lia) e,hhi⟩
     |false=>
      dsimp only;rw[Ab (by simp)]
      exact Ad ⟨rfl,_,_,rfl,by lia,by lia,by lia,hlo,fun i hi hin=>hmf _ i hi hin e⟩
   .rintro c st' ⟨rfl,l,h,rfl,hl,hn,hm',hlo,hhi⟩
    have:l=h:=by lia
    subst this;exact⟨rfl,l,rfl,hn,hlo,hhi⟩
   rotate_left
   .rintro c st' ⟨rfl,k,rfl,hk',hlo,hhi⟩
    exact Ad (q k hk' hlo hhi)
   refine⟨rfl,hi0+1-min of (hi0+1),hi0-la,rfl,by lia,by lia,by lia,(fun i hi=>?_),(fun i hi hin=>hmf (hi0-la) i hi hin h4)⟩
   rcases h5 with h5|h5
   .lia
   .exact hm i (hi0-of) (by lia) (by lia) h5.2
end
noncomputable def mloP:Array Keyed->Array Keyed->StateT SortSt Sem (Array Keyed):=sortPriv% PySem.Builtin.mergeLo
noncomputable abbrev zB (st:SortSt) (g:Nat):SortSt:=SortSt.mk' (kindOf st) (arrOf st) (pendingOf st) g (failedOf st)
noncomputable def sgP:Nat->StateT SortSt Sem Unit:=sortPriv% PySem.Builtin.setMinGallop
def Gu (g:Nat):sgP g=modify fun st=>zB st g:=rfl
def Pi (a b:Array Keyed):mloP a b=(do
 rule "list.sort.merge-lo"
 let tot:=a.size+b.size
 let dn (o:Array Keyed) (x y:Nat):=o++a.extract x a.size++b.extract y b.size
 let la (o:Array Keyed) (x y:Nat):=o++b.extract y b.size++a.extract x a.size
 let mut o:Array Keyed:= #[<-elem' b 0]
 let mut x:=0
 let mut y:=1
 if y==b.size then
  return dn o x y
 if x+1==a.size then
  return la o x y
 let mut g:=gallopOf (<-get)
 for _ in [0:tot] do
  let mut ca:=0
  let mut cb:=0
  for _ in [0:tot] do
   let some bw <-lt' (<-elem' b y) (<-elem' a x)
    |return dn o x y
   if bw then
    o:=o.push (<-elem' b y)
    y:=y+1
    cb:=cb+1
    ca:=0
    if y==b.size then
     return dn o x y
    if cb≥g then break
   else
    o:=o.push (<-elem' a x)
    x:=x+1
    ca:=ca+1
    cb:=0
    if x+1==a.size then
     return la o x y
    if ca≥g then break
  rule "list.sort.gallop"
  g:=g+1
  for _ in [0:tot] do
   if g > 1 then g:=g-1
   sgP g
   let some k <-qm false (<-elem' b y) a x (a.size-x) 0
    |return dn o x y
   ca:=k
   if k > 0 then
    o:=o++a.extract x (x+k)
    x:=x+k
    if x+1==a.size then
     return la o x y
    if x==a.size then
     return dn o x y
   o:=o.push (<-elem' b y)
   y:=y+1
   if y==b.size then
    return dn o x y
   let some k <-qm true (<-elem' a x) b y (b.size-y) 0
    |return dn o x y
   cb:=k
   if k > 0 then
    o:=o++b.extract y (y+k)
    y:=y+k
    if y==b.size then
     return dn o x y
   o:=o.push (<-elem' a x)
   x:=x+1
   if x+1==a.size then
    return la o x y
   if ca<7 && cb<7 then break
  g:=g+1
  sgP g
 unsupported "internal:list.sort.merge-bound"):=rfl
section
variable {κt:Type} {lt:κt->κt->Bool} {kf:Keyed->κt}
def le (lt:κt->κt->Bool) (kf:Keyed->κt) (u v:Keyed):Prop:=lt (kf v) (kf u)=false
def le_trans (O:Srt.Ord lt) {u v x:Keyed} (h1:le lt kf u v) (h2:le lt kf v x):le lt kf u x:=O.trans _ _ _ h1 h2
def AV (O:Srt.Ord lt) {u v:Keyed} (h:lt (kf u) (kf v)=true):le lt kf u v:=O.asym _ _ h
def le_refl (O:Srt.Ord lt) (u:Keyed):le lt kf u u:=Srt.irr O _
abbrev Sd (lt:κt->κt->Bool) (kf:Keyed->κt) (l:List Keyed):Prop:=l.Pairwise (le lt kf)
theorem Sd.at (O:Srt.Ord lt) {l:List Keyed} (h:Sd lt kf l) {i j:Nat} {u v:Keyed} (hij:i<=j) (hi:l[i]? =some u) (hj:l[j]? =some v):le lt kf u v:=by
 by_cases e:i=j
 .subst e;rw[hi]at hj;cases hj;exact le_refl O u
 .obtain⟨h1,e1⟩:=Aq.mp hi
  obtain⟨h2,e2⟩:=Aq.mp hj;have:=Fc.mp h i j h1 h2 (by lia)
  rw[e1,e2]at this;exact this
theorem Sd.drop (O:Srt.Ord lt) {l:List Keyed} (h:Sd lt kf l) {i:Nat} {u v:Keyed} (hi:l[i]? =some u) (hv:v∈l.drop i):le lt kf u v:=by
 obtain⟨j,hj⟩:=Ds.mp hv;rw[Ee]at hj;exact h.at O (by lia) hi hj
structure Mi (lt:κt->κt->Bool) (kf:Keyed->κt) (a b o:Array Keyed) (x y:Nat):Prop where
 perm:o.toList.Perm (a.toList.take x++b.toList.take y)
 sort:Sd lt kf o.toList
 ua:∀u∈o.toList,∀v∈a.toList.drop x,le lt kf u v
 ub:∀u∈o.toList,∀v∈b.toList.drop y,le lt kf u v
def Mi.swap {a b o:Array Keyed} {x y:Nat} (h:Mi lt kf a b o x y):Mi lt kf b a o y x:=⟨h.perm.trans Di,h.sort,h.ub,h.ua⟩
def DY {l:List Keyed} {i:Nat} {u:Keyed} (h:l[i]? =some u):l.drop i=u::l.drop (i+1):=by
 obtain⟨h1,e1⟩:=Aq.mp h;rw[Ef h1,e1]
def Pj {l:List Keyed} {i:Nat} {u:Keyed} (h:l[i]? =some u):u∈l.drop i:=by rw[DY h];exact Ax
theorem Mi.a (O:Srt.Ord lt) {a b o:Array Keyed} {x y:Nat} {e:Keyed} (h:Mi lt kf a b o x y) (sa:Sd lt kf a.toList) (hx:a.toList[x]? =some e) (hb:∀v∈b.toList.drop y,le lt kf e v):Mi lt kf a b (o.push e) (x+1) y:=by
 have ed:=DY hx
 refine⟨?_,?_,fun u hu v hv=>?_,fun u hu v hv=>?_⟩
 .rw[Cd,Dt,hx]
  refine (h.perm.append_right [e]).trans ?_
  rw[Aw,Aw];exact (Di).append_left _
 .rw[Cd]
  refine Cn.mpr ⟨h.sort,Fw _ _,fun u hu v hv=>?_⟩
  rw[Bm.mp hv];exact h.ua u hu e (Pj hx)
 .rw[Cd]at hu
  rcases Bi.mp hu with hu|hu
  .exact h.ua u hu v (by rw[ed];exact A1 _ hv)
  .rw[Bm.mp hu]
   exact sa.drop O hx (by rw[ed];exact A1 _ hv)
 .rw[Cd]at hu
  rcases Bi.mp hu with hu|hu
  .exact h.ub u hu v hv
  .rw[Bm.mp hu];exact hb v hv
theorem Mi.b (O:Srt.Ord lt) {a b o:Array Keyed} {x y:Nat} {e:Keyed} (h:Mi lt kf a b o x y) (sb:Sd lt kf b.toList) (hy:b.toList[y]? =some e) (ha:∀v∈a.toList.drop x,le lt kf e v):Mi lt kf a b (o.push e) x (y+1):=(h.swap.a O sb hy ha).swap
def Pk {a o:Array Keyed} {x k:Nat} {e:Keyed} (h:a.toList[x+k]? =some e):o++a.extract x (x+(k+1))=(o++a.extract x (x+k)).push e:=by
 apply Cr
 rw[Cd,B5,B5,Cs,Cs,Aw]
 congr 1
 rw[Ct,Ct,show x+(k+1)-x=k+1 by lia,show x+k-x=k by lia,Dt,Ee,h];rfl
theorem Mi.as (O:Srt.Ord lt) {a b o:Array Keyed} {x y:Nat} (h:Mi lt kf a b o x y) (sa:Sd lt kf a.toList):∀k,x+k<=a.size->(∀i e,i<k->a.toList[x+i]? =some e->∀v∈b.toList.drop y,le lt kf e v)->Mi lt kf a b (o++a.extract x (x+k)) (x+k) y
 |0,_,_=>by
  have e:o++a.extract x (x+0)=o:=by
   apply Cr
   rw[B5,Cs,Ct,show x+0-x=0 by lia,C6,Bo]
  rw[e];exact h
 |k+1,hk,hb=>by
  have ih:=h.as O sa k (by lia) fun i e hi=>hb i e (by lia)
  have hl:x+k<a.toList.length:=by rw[Ar];lia
  have he:a.toList[x+k]? =some (a.toList[x+k]):=z0 hl;rw[Pk he];exact ih.a O sa he (hb k _ (by lia) he)
def Mi.bs (O:Srt.Ord lt) {a b o:Array Keyed} {x y:Nat} (h:Mi lt kf a b o x y) (sb:Sd lt kf b.toList) (k:Nat) (hk:y+k<=b.size) (ha:∀i e,i<k->b.toList[y+i]? =some e->∀v∈a.toList.drop x,le lt kf e v):Mi lt kf a b (o++b.extract y (y+k)) x (y+k):=(h.swap.as O sb k hk ha).swap
def Rs (lt:κt->κt->Bool) (kf:Keyed->κt) (a b r:Array Keyed):Prop:=r.toList.Perm (a.toList++b.toList)/\Sd lt kf r.toList
def Gv (a:Array Keyed) (x:Nat):(a.extract x a.size).toList=a.toList.drop x:=by
 rw[Cs,Ct,Fd (by rw[Cc,Ar];exact Nat.le_refl _)]
def Mi.done {a b o:Array Keyed} {x y:Nat} (h:Mi lt kf a b o x y) (sa:Sd lt kf a.toList) (sb:Sd lt kf b.toList) (hz:x=a.size\/y=b.size):Rs lt kf a b (o++a.extract x a.size++b.extract y b.size):=by
 unfold Rs;rw[B5,B5,Gv,Gv]
 constructor
 .refine ((h.perm.append_right _).append_right _).trans ?_
  have e1:=Bx x a.toList;have e2:=Bx y b.toList;rw[Aw (a.toList.take x)]
  refine ((Di.append_left (a.toList.take x)).append_right _).trans ?_
  rw[<-Aw,e1,Aw,e2]
 .refine Cn.mpr ⟨Cn.mpr ⟨h.sort,List.Pairwise.drop sa,fun u hu v hv=>h.ua u hu v hv⟩,List.Pairwise.drop sb,fun u hu v hv=>?_⟩
  rcases Bi.mp hu with hu|hu
  .exact h.ub u hu v hv
  .rcases hz with hz|hz
   .rw[hz,<-Ar,Cu]at hu;cases hu
   .rw[hz,<-Ar,Cu]at hv;cases hv
def Rs.swap {a b r:Array Keyed} (h:Rs lt kf b a r):Rs lt kf a b r:=⟨h.1.trans Di,h.2⟩
def Mi.last {a b o:Array Keyed} {x y:Nat} (h:Mi lt kf a b o x y) (sa:Sd lt kf a.toList) (sb:Sd lt kf b.toList) (hl:∀v∈b.toList.drop y,∀e∈a.toList.drop x,le lt kf v e):Rs lt kf a b (o++b.extract y b.size++a.extract x a.size):=by
 unfold Rs;rw[B5,B5,Gv,Gv]
 constructor
 .refine ((h.perm.append_right _).append_right _).trans ?_
  have e1:=Bx x a.toList;have e2:=Bx y b.toList;rw[Aw (a.toList.take x),e2,Aw]
  refine (Di.append_left _).trans ?_
  rw[<-Aw,e1]
 .refine Cn.mpr ⟨Cn.mpr ⟨h.sort,List.Pairwise.drop sb,fun u hu v hv=>h.ub u hu v hv⟩,List.Pairwise.drop sa,fun u hu v hv=>?_⟩
  rcases Bi.mp hu with hu|hu
  .exact h.ua u hu v hv
  .exact hl u hu v hv
end
section
variable {prog:Program} {w:World} {A:Around} {E:VP} {s:Shared} {κt:Type} {lt:κt->κt->Bool} {kf:Keyed->κt} {κ0:SortKind} {it:Array Keyed}
def CN {x:String} {Q:Unit->SortSt->Prop} {st:SortSt} (q:Q () st):wpS (model prog w) A E s (liftM (rule x):StateT SortSt Sem Unit) Q st:=wpS_lift (wpAny_rule ⟨rfl,q⟩)
def yD {a:Array Keyed} {i:Nat} (h:i<a.size):∃e,a[i]? =some e/\a.toList[i]? =some e/\e∈a.toList:=by
 refine⟨a[i],by simp[h],by simp[h],?_⟩
 exact Array.getElem_mem_toList h
def HK (O:Srt.Ord lt) (hc:Cmp prog w A E s lt kf κ0 it) {ke:Keyed} {a:Array Keyed} {x hi0 n:Nat} {Q:Option Nat->SortSt->Prop} {st:SortSt} (hk:kindOf st=κ0) (hke:ke∈it.toList) (ha:∀u∈a.toList,u∈it.toList) (hn:x+n<=a.size) (hh:hi0<n)
  (sa:∀i j u v,i<=j->j<n->a.toList[x+i]? =some u->a.toList[x+j]? =some v->le lt kf u v)
  (q:∀k,k<=n->(∀i e,i<k->a.toList[x+i]? =some e->le lt kf e ke)->(∀i e,k<=i->i<n->a.toList[x+i]? =some e->lt (kf ke) (kf e)=true)->Q (some k) st):wpS (model prog w) A E s (qm false ke a x n hi0) Q st:=by
 refine Ka hc hk hke hh (fun i hi=>?_) (fun i=>match a[x+i]? with|some e=> !lt (kf ke) (kf e)|none=>false) (fun i e hi he=>?_) (fun i j hij hj hB=>?_) fun k hkn h1 h2=>?_
 .obtain⟨e,h1,h2,h3⟩:=yD (a:=a) (i:=x+i) (by lia)
  exact⟨e,h1,ha e h3⟩
 ·(try dsimp only);rw[he];rfl
 .obtain⟨u,u1,u2,u3⟩:=yD (a:=a) (i:=x+i) (by lia)
  obtain⟨v,v1,v2,v3⟩:=yD (a:=a) (i:=x+j) (by lia)
  try dsimp only at hB ⊢
  rw[v1]at hB;rw[u1]
  try dsimp only at hB ⊢
  have hv:le lt kf v ke:=by unfold le;simpa using hB
  have:=le_trans O (sa i j u v hij hj u2 v2) hv;unfold le at this;rw[this];rfl
 .refine q k hkn (fun i e hi he=>?_) fun i e hi hin he=>?_
  .have:=h1 i hi
   try dsimp only at this
   rw[<-Ck,he]at this;unfold le;simpa using this
  .have:=h2 i hi hin
   try dsimp only at this
   rw[<-Ck,he]at this;simpa using this
def HL (O:Srt.Ord lt) (hc:Cmp prog w A E s lt kf κ0 it) {ke:Keyed} {a:Array Keyed} {x hi0 n:Nat} {Q:Option Nat->SortSt->Prop} {st:SortSt} (hk:kindOf st=κ0) (hke:ke∈it.toList) (ha:∀u∈a.toList,u∈it.toList) (hn:x+n<=a.size) (hh:hi0<n)
  (sa:∀i j u v,i<=j->j<n->a.toList[x+i]? =some u->a.toList[x+j]? =some v->le lt kf u v)
  (q:∀k,k<=n->(∀i e,i<k->a.toList[x+i]? =some e->lt (kf e) (kf ke)=true)->(∀i e,k<=i->i<n->a.toList[x+i]? =some e->le lt kf ke e)->Q (some k) st):wpS (model prog w) A E s (qm true ke a x n hi0) Q st:=by
 refine Ka hc hk hke hh (fun i hi=>?_) (fun i=>match a[x+i]? with|some e=>lt (kf e) (kf ke)|none=>false) (fun i e hi he=>?_) (fun i j hij hj hB=>?_) fun k hkn h1 h2=>?_
 .obtain⟨e,h1,h2,h3⟩:=yD (a:=a) (i:=x+i) (by lia)
  exact⟨e,h1,ha e h3⟩
 ·(try dsimp only);rw[he];rfl
 .obtain⟨u,u1,u2,u3⟩:=yD (a:=a) (i:=x+i) (by lia)
  obtain⟨v,v1,v2,v3⟩:=yD (a:=a) (i:=x+j) (by lia)
  try dsimp only at hB ⊢
  rw[v1]at hB;rw[u1]
  try dsimp only at hB ⊢
  cases e:lt (kf u) (kf ke) with
  |true=>rfl
  |false=>
   have h1:le lt kf ke u:=e;have:=le_trans O h1 (sa i j u v hij hj u2 v2);unfold le at this;rw[this]at hB;cases hB
 .refine q k hkn (fun i e hi he=>?_) fun i e hi hin he=>?_
  .have:=h1 i hi
   try dsimp only at this
   rw[<-Ck,he]at this;exact this
  .have:=h2 i hi hin
   try dsimp only at this
   rw[<-Ck,he]at this;exact this
def Kb (O:Srt.Ord lt) {a:Array Keyed} (sa:Sd lt kf a.toList) (x:Nat):∀i j u v,i<=j->j<a.size-x->a.toList[x+i]? =some u->a.toList[x+j]? =some v->le lt kf u v:=fun i j u v hij _ h1 h2=>sa.at O (by lia) h1 h2
def Gw {l:List Keyed} {x k n:Nat} {z:Keyed} (hl:l.length<=x+n) (hz:z∈l.drop (x+k)):∃i,k<=i/\i<n/\l[x+i]? =some z:=by
 obtain⟨j,hj⟩:=Ds.mp hz;rw[Ee]at hj;have:=(Aq.mp hj).1;exact⟨k+j,by lia,by lia,by rw[<-hj];congr 1;lia⟩
def yQ {α:Type} {c:Prop} [Decidable c] {p q:StateT SortSt Sem α} {Q:α->SortSt->Prop} {st:SortSt} (hp:c->wpS (model prog w) A E s p Q st) (hq: ¬c->wpS (model prog w) A E s q Q st):wpS (model prog w) A E s (if c then p else q) Q st:=by
 by_cases h:c
 .rw[Aa h];exact hp h
 .rw[Ab h];exact hq h
abbrev LS:=Option (Array Keyed)×Array Keyed×Nat×Nat×Nat×Nat×Nat
noncomputable def lo1 (a b o:Array Keyed) (x y g ca cb:Nat):StateT SortSt Sem (ForInStep LS):=do
 let u <-elem' a x
 if x+1+1==a.size then
  pure (.done (some (o.push u++b.extract y b.size++a.extract (x+1) a.size),o.push u,x+1,y,g,ca,cb))
 else if ca<7 && cb<7 then
  pure (.done (none,o.push u,x+1,y,g,ca,cb))
 else
  pure (.yield (none,o.push u,x+1,y,g,ca,cb))
def lo2 (a b o:Array Keyed) (x y g ca cb:Nat):StateT SortSt Sem (ForInStep LS):=do
 let v <-elem' b y
 if y+1==b.size then
  pure (.done (some (o.push v++a.extract x a.size++b.extract (y+1) b.size),o.push v,x,y+1,g,ca,cb))
 else
  let u <-elem' a x
  let r <-qm true u b (y+1) (b.size-(y+1)) 0
  match r with
  |some k=>
   if k > 0 then
    if y+1+k==b.size then
     pure (.done (some (o.push v++b.extract (y+1) (y+1+k)++a.extract x a.size++b.extract (y+1+k) b.size),o.push v++b.extract (y+1) (y+1+k),x,y+1+k,g,ca,k))
    else lo1 a b (o.push v++b.extract (y+1) (y+1+k)) x (y+1+k) g ca k
   else lo1 a b (o.push v) x (y+1) g ca k
  |_=>pure (.done (some (o.push v++a.extract x a.size++b.extract (y+1) b.size),o.push v,x,y+1,g,ca,cb))
def lo3 (a b o:Array Keyed) (x y g ca cb:Nat):StateT SortSt Sem (ForInStep LS):=do
 sgP g
 let v <-elem' b y
 let r <-qm false v a x (a.size-x) 0
 match r with
 |some k=>
  if k > 0 then
   if x+k+1==a.size then
    pure (.done (some (o++a.extract x (x+k)++b.extract y b.size++a.extract (x+k) a.size),o++a.extract x (x+k),x+k,y,g,k,cb))
   else if x+k==a.size then
    pure (.done (some (o++a.extract x (x+k)++a.extract (x+k) a.size++b.extract y b.size),o++a.extract x (x+k),x+k,y,g,k,cb))
   else lo2 a b (o++a.extract x (x+k)) (x+k) y g k cb
  else lo2 a b o x y g k cb
 |_=>pure (.done (some (o++a.extract x a.size++b.extract y b.size),o,x,y,g,ca,cb))
section
variable {a b:Array Keyed} {st:SortSt} {R:ForInStep LS->SortSt->Prop} {N:Nat}
variable (O:Srt.Ord lt) (hc:Cmp prog w A E s lt kf κ0 it) (hk:kindOf st=κ0) (ha:∀u∈a.toList,u∈it.toList) (hb:∀u∈b.toList,u∈it.toList) (sa:Sd lt kf a.toList) (sb:Sd lt kf b.toList) (last:∀{o:Array Keyed} {x y:Nat},Mi lt kf a b o x y->x+1=a.size->Rs lt kf a b (o++b.extract y b.size++a.extract x a.size)) (hd:∀o x y g ca cb r g',Rs lt kf a b r->R (.done (some r,o,x,y,g,ca,cb)) (zB st g')) (hn:∀o x y g ca cb g',Mi lt kf a b o x y->x+1<a.size->y<b.size->N<=x+y->R (.done (none,o,x,y,g,ca,cb)) (zB st g')/\R (.yield (none,o,x,y,g,ca,cb)) (zB st g'))
include O hc hk ha hb sa sb last hd hn
theorem Kc {o:Array Keyed} {x y g ca cb g':Nat} (hM:Mi lt kf a b o x y) (hx:x+1<a.size) (hy:y<b.size) (hN:N<=x+y) (hu:∀u,a.toList[x]? =some u->∀z∈b.toList.drop y,le lt kf u z):wpS (model prog w) A E s (lo1 a b o x y g ca cb) R (zB st g'):=by
 obtain⟨u,u1,u2,u3⟩:=yD (a:=a) (i:=x) (by lia)
 refine Ac (yy u1 ?_)
 have hT:=hM.a O sa u2 (hu u u2)
 split
 .rename_i ex
  exact Ad (hd _ _ _ _ _ _ _ _ (last hT (Af.mp ex)))
 .rename_i ex
  have n3: ¬(x+1+1=a.size):=fun z=>ex (Af.mpr z)
  have:=hn _ _ _ g ca cb g' hT (by lia) hy (by lia)
  split
  .exact Ad this.1
  .exact Ad this.2
theorem Ke {o:Array Keyed} {x y g ca cb g':Nat} (hM:Mi lt kf a b o x y) (hx:x+1<a.size) (hy:y<b.size) (hN:N<=x+y) (hv:∀v,b.toList[y]? =some v->∀z∈a.toList.drop x,le lt kf v z):wpS (model prog w) A E s (lo2 a b o x y g ca cb) R (zB st g'):=by
 obtain⟨v,v1,v2,v3⟩:=yD (a:=b) (i:=y) hy;obtain⟨u,u1,u2,u3⟩:=yD (a:=a) (i:=x) (by lia)
 refine Ac (yy v1 ?_)
 have hP:=hM.b O sb v2 (hv v v2)
 by_cases ey:(y+1==b.size)=true
 .rw[Aa ey]
  exact Ad (hd _ _ _ _ _ _ _ _ (hP.done sa sb (.inr (Af.mp ey))))
 rw[Ab ey];have ey': ¬y+1=b.size:=fun z=>ey (Af.mpr z)
 refine Ac (yy u1 (Ac (HL O hc hk (ha u u3) hb (by lia) (by lia) (Kb O sb _) fun m hmn m1 m2=>?_)))
 dsimp only;have hu:∀z∈b.toList.drop (y+1+m),le lt kf u z:=fun z hz=>by
  obtain⟨i,i1,i2,i3⟩:=Gw (n:=b.size-(y+1)) (by rw[Ar];lia) hz
  exact m2 i z i1 i2 i3
 by_cases hm0:m > 0
 .have hR:=hP.bs O sb m (by lia) fun i e hi he z hz=>le_trans O (AV O (m1 i e hi he)) (sa.drop O u2 hz)
  rw[Aa hm0]
  by_cases ey2:(y+1+m==b.size)=true
  .rw[Aa ey2]
   exact Ad (hd _ _ _ _ _ _ _ _ (hR.done sa sb (.inr (Af.mp ey2))))
  .rw[Ab ey2]
   have n1: ¬y+1+m=b.size:=fun z=>ey2 (Af.mpr z)
   exact Kc O hc hk ha hb sa sb last hd hn hR hx (by lia) (by lia) fun u' h'=>by rw[u2]at h';cases h';exact hu
 .have hm0':m=0:=by lia
  rw[Ab hm0];rw[hm0',Dj]at hu;exact Kc O hc hk ha hb sa sb last hd hn hP hx (by lia) (by lia) fun u' h'=>by rw[u2]at h';cases h';exact hu
theorem Pl {o:Array Keyed} {x y g ca cb g':Nat} (hM:Mi lt kf a b o x y) (hx:x+1<a.size) (hy:y<b.size) (hN:N<=x+y):wpS (model prog w) A E s (lo3 a b o x y g ca cb) R (zB st g'):=by
 obtain⟨v,v1,v2,v3⟩:=yD (a:=b) (i:=y) hy
 refine Ac ?_
 rw[Gu]
 refine Ce ?_
 refine Ac (yy v1 (Ac (HK O hc hk (hb v v3) ha (by lia) (by lia) (Kb O sa x) fun k hkn k1 k2=>?_)))
 dsimp only;have hv:∀z∈a.toList.drop (x+k),le lt kf v z:=fun z hz=>by
  obtain⟨i,i1,i2,i3⟩:=Gw (n:=a.size-x) (by rw[Ar];lia) hz
  exact AV O (k2 i z i1 i2 i3)
 by_cases hk0:k > 0
 .have hP:Mi lt kf a b (o++a.extract x (x+k)) (x+k) y:=hM.as O sa k (by lia) fun i e hi he z hz=>le_trans O (k1 i e hi he) (sb.drop O v2 hz)
  rw[Aa hk0]
  by_cases ex:(x+k+1==a.size)=true
  .rw[Aa ex]
   exact Ad (hd _ _ _ _ _ _ _ g (last hP (Af.mp ex)))
  rw[Ab ex]
  by_cases ex2:(x+k==a.size)=true
  .rw[Aa ex2]
   exact Ad (hd _ _ _ _ _ _ _ g (hP.done sa sb (.inl (Af.mp ex2))))
  rw[Ab ex2];have n1: ¬x+k+1=a.size:=fun z=>ex (Af.mpr z)
  have n2: ¬x+k=a.size:=fun z=>ex2 (Af.mpr z)
  exact Ke O hc hk ha hb sa sb last hd hn (g':=g) hP (by lia) hy (by lia) fun v' h'=>by rw[v2]at h';cases h';exact hv
 .rw[Ab hk0]
  have hk0':k=0:=by lia
  rw[hk0',Dj]at hv;exact Ke O hc hk ha hb sa sb last hd hn (g':=g) hM hx hy hN fun v' h'=>by rw[v2]at h';cases h';exact hv
end
def Pn (O:Srt.Ord lt) (hc:Cmp prog w A E s lt kf κ0 it) {a b:Array Keyed} {Q:Array Keyed->SortSt->Prop} {st:SortSt} (hk:kindOf st=κ0) (ha:∀u∈a.toList,u∈it.toList) (hb:∀u∈b.toList,u∈it.toList) (sa:Sd lt kf a.toList) (sb:Sd lt kf b.toList)
  (a1:1<=a.size) (b1:1<=b.size) (hf:∀e,b.toList[0]? =some e->∀v∈a.toList,le lt kf e v) (hl:∀v∈b.toList,∀e,a.toList[a.size-1]? =some e->le lt kf v e)
  (q:∀r g,Rs lt kf a b r->Q r (zB st g)):wpS (model prog w) A E s (mloP a b) Q st:=by
 have last:∀{o:Array Keyed} {x y:Nat},Mi lt kf a b o x y->x+1=a.size->Rs lt kf a b (o++b.extract y b.size++a.extract x a.size):=fun {o x y} h hx=>h.last sa sb fun v hv e he=>by
  obtain⟨e',h1,h2,h3⟩:=yD (a:=a) (i:=x) (by lia)
  have ed:=DY h2;rw[ed,Eg (by rw[Ar];lia)]at he
  rw[Bm.mp he];exact hl v (Eh hv) e' (by rw[show a.size-1=x by lia];exact h2)
 obtain⟨f0,f1,f2,f3⟩:=yD (a:=b) (i:=0) (by lia)
 have m0:Mi lt kf a b #[f0] 0 1:=by
  refine⟨?_,Fw _ _,fun u hu v hv=>?_,fun u hu v hv=>?_⟩
  .rw[C6,B4,Dt,f2,C6];exact List.Perm.refl _
  .rw[Bm.mp hu];exact hf f0 f2 v (by rw[Du]at hv;exact hv)
  .rw[Bm.mp hu]
   exact sb.drop O (i:=0) f2 (by rw[Du];exact Eh hv)
 rw[Pi]
 refine Ac (CN ?_)
 refine Ac (yy f1 ?_)
 have q0:∀r,Rs lt kf a b r->Q r st:=fun r hr=>q r (gallopOf st) hr
 refine yQ (fun hb1=>Ad (q0 _ (m0.done sa sb (.inr (Af.mp hb1))))) fun hb1=>?_
 have hb1': ¬1=b.size:=fun z=>hb1 (Af.mpr z)
 refine yQ (fun ha1=>Ad (q0 _ (last m0 (Af.mp ha1)))) fun ha1=>?_
 have ha1': ¬0+1=a.size:=fun z=>ha1 (Af.mpr z)
 refine Ac (Cf ?_)
 refine Ac (Bg (Bh (I:=fun i c st'=> ∃o x y g,c=(none,o,x,y,g)/\(∃g',st'=zB st g')/\Mi lt kf a b o x y/\x+1<a.size/\y<b.size/\i+1<=x+y)
  (Q:=fun c st'=> ∃r d g',c=(some r,d)/\st'=zB st g'/\Rs lt kf a b r) ?step ?fin ?init) ?post)
 case init=>exact⟨_,_,_,_,rfl,⟨gallopOf st,rfl⟩,m0,by lia,by lia,by lia⟩
 case fin=>
  rintro c st' ⟨o,x,y,g,rfl,_,_,h1,h2,h3⟩;lia
 case post=>
  rintro c st' ⟨r,d,g',rfl,rfl,hr⟩;exact Ad (q r g' hr)
 case step=>
  rintro i c st' _ hi ⟨o,x,y,g,rfl,⟨g0,rfl⟩,hM,hx,hy,hxy⟩
  refine Ac (Bg (Bh (I:=fun j c st'=> ∃o' x' y' ca cb,c=(none,o',x',y',ca,cb)/\st'=zB st g0/\Mi lt kf a b o' x' y'/\x'+1<a.size/\y' < b.size/\x+y+j<=x'+y')
   (Q:=fun c st'=>st'=zB st g0/\((∃r d,c=(some r,d)/\Rs lt kf a b r)\/∃o' x' y' ca cb,c=(none,o',x',y',ca,cb)/\Mi lt kf a b o' x' y'/\x'+1<a.size/\y' < b.size/\x+y+1<=x'+y')) ?_ ?_ ?_) ?_)
  .rintro j c st' _ hj ⟨o',x',y',ca,cb,rfl,rfl,hM',hx',hy',hxy'⟩
   obtain⟨u,u1,u2,u3⟩:=yD (a:=a) (i:=x') (by lia)
   obtain⟨v,v1,v2,v3⟩:=yD (a:=b) (i:=y') (by lia)
   refine Ac (yy v1 (Ac (yy u1 (Ac (hc v u _ _ (hb v v3) (ha u u3) hk ?_)))))
   cases e:lt (kf v) (kf u) with
   |true=>
    refine yQ (fun _=>?_) (fun h=>absurd rfl h)
    refine Ac (yy v1 ?_)
    have hN:=hM'.b O sb v2 fun z hz=>le_trans O (AV O e) (sa.drop O u2 hz)
    refine yQ (fun ey=>Ad ⟨rfl,.inl ⟨_,_,rfl,hN.done sa sb (.inr (Af.mp ey))⟩⟩) fun ey=>?_
    have ey': ¬y'+1=b.size:=fun z=>ey (Af.mpr z)
    exact yQ (fun _=>Ad ⟨rfl,.inr ⟨_,x',y'+1,_,_,rfl,hN,hx',by lia,by lia⟩⟩) fun _=>Ad ⟨_,x',y'+1,_,_,rfl,rfl,hN,hx',by lia,by lia⟩
   |false=>
    refine yQ (fun h=>absurd h A2) (fun _=>?_)
    refine Ac (yy u1 ?_)
    have hN:=hM'.a O sa u2 fun z hz=>le_trans O (show le lt kf u v from e) (sb.drop O v2 hz)
    refine yQ (fun ex=>Ad ⟨rfl,.inl ⟨_,_,rfl,last hN (Af.mp ex)⟩⟩) fun ex=>?_
    have ex': ¬x'+1+1=a.size:=fun z=>ex (Af.mpr z)
    exact yQ (fun _=>Ad ⟨rfl,.inr ⟨_,x'+1,y',_,_,rfl,hN,by lia,hy',by lia⟩⟩) fun _=>Ad ⟨_,x'+1,y',_,_,rfl,rfl,hN,by lia,hy',by lia⟩
  .rintro c st' ⟨o',x',y',ca,cb,rfl,rfl,hM',hx',hy',hxy'⟩
   lia
  .exact⟨o,x,y,_,_,rfl,rfl,hM,hx,hy,by lia⟩
  .rintro c st' ⟨rfl,⟨r,d,rfl,hr⟩|⟨o',x',y',ca,cb,rfl,hM',hx',hy',hxy'⟩⟩
   .exact Ad ⟨r,_,g0,rfl,rfl,hr⟩
   .refine Ac (CN ?_)
    refine Ac (Bg (Bh (I:=fun j c st'=> ∃o' x' y' g1 ca cb,c=(none,o',x',y',g1,ca,cb)/\(∃g',st'=zB st g')/\Mi lt kf a b o' x' y'/\x'+1<a.size/\y' < b.size/\x+y+1<=x'+y')
     (Q:=fun c st'=>(∃g',st'=zB st g')/\((∃r d,c=(some r,d)/\Rs lt kf a b r)\/∃o' x' y' g1 ca cb,c=(none,o',x',y',g1,ca,cb)/\Mi lt kf a b o' x' y'/\x'+1<a.size/\y' < b.size/\x+y+1<=x'+y')) ?_ ?_ ?_) ?_)
    .rintro j c st' _ hj ⟨o',x',y',g1,ca,cb,rfl,⟨g',rfl⟩,hM',hx',hy',hxy'⟩
     have key:=fun g2 (R:ForInStep LS->SortSt->Prop) h1 h2=>Pl (R:=R) (ca:=ca) (cb:=cb) (g:=g2) (g':=g') O hc hk ha hb sa sb last h1 h2 hM' hx' hy' hxy'
     exact yQ (fun _=>key (g1-1) _ (fun o x y g ca cb r g' hr=>⟨⟨_,rfl⟩,.inl ⟨_,_,rfl,hr⟩⟩) (fun o x y g ca cb g' h1 h2 h3 h4=>⟨⟨⟨_,rfl⟩,.inr ⟨_,_,_,_,_,_,rfl,h1,h2,h3,h4⟩⟩,⟨_,_,_,_,_,_,rfl,⟨_,rfl⟩,h1,h2,h3,h4⟩⟩)) fun _=>key g1 _ (fun o x y g ca cb r g' hr=>⟨⟨_,rfl⟩,.inl ⟨_,_,rfl,hr⟩⟩) (fun o x y g ca cb g' h1 h2 h3 h4=>⟨⟨⟨_,rfl⟩,.inr ⟨_,_,_,_,_,_,rfl,h1,h2,h3,h4⟩⟩,⟨_,_,_,_,_,_,rfl,⟨_,rfl⟩,h1,h2,h3,h4⟩⟩)
    .rintro c st' ⟨o',x',y',g1,ca,cb,rfl,hst,hM',hx',hy',hxy'⟩
     exact⟨hst,.inr ⟨_,_,_,_,_,_,rfl,hM',hx',hy',hxy'⟩⟩
    .exact⟨_,_,_,_,_,_,rfl,⟨g0,rfl⟩,hM',hx',hy',hxy'⟩
    .rintro c st' ⟨⟨g',rfl⟩,⟨r,d,rfl,hr⟩|⟨o',x',y',g1,ca,cb,rfl,hM',hx',hy',hxy'⟩⟩
     .exact Ad ⟨r,_,g',rfl,rfl,hr⟩
     .refine Ac ?_
      rw[Gu]
      refine Ce (Ad ⟨o',x',y',_,rfl,⟨_,rfl⟩,hM',hx',hy',by lia⟩)
end
noncomputable def mhiP:Array Keyed->Array Keyed->StateT SortSt Sem (Array Keyed):=sortPriv% PySem.Builtin.mergeHi
def Po (a b:Array Keyed):mhiP a b=(do
 rule "list.sort.merge-hi"
 let tot:=a.size+b.size
 let dn (o:Array Keyed) (x y:Nat):=a.extract 0 x++b.extract 0 y++o.reverse
 let fb (o:Array Keyed) (x y:Nat):=b.extract 0 y++a.extract 0 x++o.reverse
 let mut x:=a.size-1
 let mut y:=b.size
 let mut o:Array Keyed:= #[<-elem' a x]
 if x==0 then
  return dn o x y
 if y==1 then
  return fb o x y
 let mut g:=gallopOf (<-get)
 for _ in [0:tot] do
  let mut ca:=0
  let mut cb:=0
  for _ in [0:tot] do
   let some aw <-lt' (<-elem' b (y-1)) (<-elem' a (x-1))
    |return dn o x y
   if aw then
    x:=x-1
    o:=o.push (<-elem' a x)
    ca:=ca+1
    cb:=0
    if x==0 then
     return dn o x y
    if ca≥g then break
   else
    y:=y-1
    o:=o.push (<-elem' b y)
    cb:=cb+1
    ca:=0
    if y==1 then
     return fb o x y
    if cb≥g then break
  rule "list.sort.gallop"
  g:=g+1
  for _ in [0:tot] do
   if g > 1 then g:=g-1
   sgP g
   let some p <-qm false (<-elem' b (y-1)) a 0 x (x-1)
    |return dn o x y
   let k:=x-p
   ca:=k
   if k > 0 then
    o:=o++(a.extract p x).reverse
    x:=p
    if x==0 then
     return dn o x y
   y:=y-1
   o:=o.push (<-elem' b y)
   if y==1 then
    return fb o x y
   let some p <-qm true (<-elem' a (x-1)) b 0 y (y-1)
    |return dn o x y
   let k:=y-p
   cb:=k
   if k > 0 then
    o:=o++(b.extract p y).reverse
    y:=p
    if y==1 then
     return fb o x y
    if y==0 then
     return dn o x y
   x:=x-1
   o:=o.push (<-elem' a x)
   if x==0 then
    return dn o x y
   if ca<7 && cb<7 then break
  g:=g+1
  sgP g
 unsupported "internal:list.sort.merge-bound"):=rfl
section
variable {κt:Type} {lt:κt->κt->Bool} {kf:Keyed->κt}
theorem Sd.take (O:Srt.Ord lt) {l:List Keyed} (h:Sd lt kf l) {i:Nat} {u v:Keyed} (hi:l[i]? =some u) (hv:v∈l.take (i+1)):le lt kf v u:=by
 obtain⟨j,hj⟩:=Ds.mp hv;have hjl:j<i+1:=by
  have:=(Aq.mp hj).1;rw[A5]at this;lia
 rw[Bv hjl]at hj;exact h.at O (by lia) hj hi
def Kf {l:List Keyed} {i:Nat} {u:Keyed} (h:l[i]? =some u):l.take (i+1)=l.take i++[u]:=by rw[Dt,h];rfl
structure Mh (lt:κt->κt->Bool) (kf:Keyed->κt) (a b o:Array Keyed) (x y:Nat):Prop where
 perm:o.toList.reverse.Perm (a.toList.drop x++b.toList.drop y)
 sort:Sd lt kf o.toList.reverse
 ua:∀u∈o.toList,∀v∈a.toList.take x,le lt kf v u
 ub:∀u∈o.toList,∀v∈b.toList.take y,le lt kf v u
def Mh.swap {a b o:Array Keyed} {x y:Nat} (h:Mh lt kf a b o x y):Mh lt kf b a o y x:=⟨h.perm.trans Di,h.sort,h.ub,h.ua⟩
theorem Mh.a (O:Srt.Ord lt) {a b o:Array Keyed} {x y:Nat} {e:Keyed} (h:Mh lt kf a b o (x+1) y) (sa:Sd lt kf a.toList) (hx:a.toList[x]? =some e) (hb:∀v∈b.toList.take y,le lt kf v e):Mh lt kf a b (o.push e) x y:=by
 have et:=Kf hx
 refine⟨?_,?_,fun u hu v hv=>?_,fun u hu v hv=>?_⟩
 .rw[Cd,List.reverse_append,DY hx]
  exact h.perm.cons e
 .rw[Cd,List.reverse_append]
  refine Ei.mpr ⟨fun v hv=>?_,h.sort⟩
  exact h.ua v (Fe.mp hv) e (by rw[et];exact Bj _ (Bm.mpr rfl))
 .rw[Cd]at hu
  rcases Bi.mp hu with hu|hu
  .exact h.ua u hu v (by rw[et];exact B8 _ hv)
  .rw[Bm.mp hu]
   exact sa.take O hx (by rw[et];exact B8 _ hv)
 .rw[Cd]at hu
  rcases Bi.mp hu with hu|hu
  .exact h.ub u hu v hv
  .rw[Bm.mp hu];exact hb v hv
theorem Mh.b (O:Srt.Ord lt) {a b o:Array Keyed} {x y:Nat} {e:Keyed} (h:Mh lt kf a b o x (y+1)) (sb:Sd lt kf b.toList) (hy:b.toList[y]? =some e) (ha:∀v∈a.toList.take x,le lt kf v e):Mh lt kf a b (o.push e) x y:=(h.swap.a O sb hy ha).swap
def Pq {a o:Array Keyed} {x k:Nat} {e:Keyed} (h:a.toList[x+k]? =some e):o++(a.extract x (x+(k+1))).reverse=o.push e++(a.extract x (x+k)).reverse:=by
 apply Cr
 rw[B5,B5,Cd,Ff,Ff,Cs,Cs,Aw]
 congr 1
 rw[Ct,Ct,show x+(k+1)-x=k+1 by lia,show x+k-x=k by lia,Dt,Ee,h,List.reverse_append];rfl
theorem Mh.asK (O:Srt.Ord lt) {a b:Array Keyed} {x y:Nat} (sa:Sd lt kf a.toList):∀(k:Nat) {o:Array Keyed},Mh lt kf a b o (x+k) y->x+k<=a.size->(∀i e,x<=i->i<x+k->a.toList[i]? =some e->∀v∈b.toList.take y,le lt kf v e)->Mh lt kf a b (o++(a.extract x (x+k)).reverse) x y
 |0,o,h,_,_=>by
  have e:o++(a.extract x (x+0)).reverse=o:=by
   apply Cr
   rw[B5,Ff,Cs,Ct,show x+0-x=0 by lia,C6,List.reverse_nil,Bo]
  rw[e];exact h
 |k+1,o,h,hk,hb=>by
  have hl:x+k<a.toList.length:=by rw[Ar];lia
  have he:a.toList[x+k]? =some (a.toList[x+k]):=z0 hl;rw[Pq he];exact Mh.asK O sa k (Mh.a O h sa he (hb (x+k) _ (by lia) (by lia) he)) (by lia) fun i e h1 h2=>hb i e h1 (by lia)
def Mh.as (O:Srt.Ord lt) {a b o:Array Keyed} {x n y:Nat} (h:Mh lt kf a b o n y) (sa:Sd lt kf a.toList) (hx:x<=n) (hn:n<=a.size) (hb:∀i e,x<=i->i<n->a.toList[i]? =some e->∀v∈b.toList.take y,le lt kf v e):Mh lt kf a b (o++(a.extract x n).reverse) x y:=by
 obtain⟨k,rfl⟩:∃k,n=x+k:=⟨n-x,by lia⟩
 exact Mh.asK O sa k h hn hb
def Mh.bs (O:Srt.Ord lt) {a b o:Array Keyed} {x n y:Nat} (h:Mh lt kf a b o x n) (sb:Sd lt kf b.toList) (hy:y<=n) (hn:n<=b.size) (ha:∀i e,y<=i->i<n->b.toList[i]? =some e->∀v∈a.toList.take x,le lt kf v e):Mh lt kf a b (o++(b.extract y n).reverse) x y:=(h.swap.as O sb hy hn ha).swap
def Kg (a:Array Keyed) (x:Nat):(a.extract 0 x).toList=a.toList.take x:=by
 rw[Cs,Ct,Du,Nat.sub_zero]
def Mh.fin {a b o:Array Keyed} {x y:Nat} (h:Mh lt kf a b o x y) (sa:Sd lt kf a.toList) (sb:Sd lt kf b.toList) (hz:∀v∈a.toList.take x,∀u∈b.toList.take y,le lt kf v u):Rs lt kf a b (a.extract 0 x++b.extract 0 y++o.reverse):=by
 unfold Rs;rw[B5,B5,Kg,Kg,Ff]
 constructor
 .refine (h.perm.append_left _).trans ?_
  have e1:=Bx x a.toList;have e2:=Bx y b.toList;rw[Aw,<-Aw (b.toList.take y)]
  refine ((Di.append_right (b.toList.drop y)).append_left (a.toList.take x)).trans ?_
  rw[Aw,<-Aw,e1,e2]
 .refine Cn.mpr ⟨Cn.mpr ⟨List.Pairwise.take sa,List.Pairwise.take sb,fun u hu v hv=>hz u hu v hv⟩,h.sort,fun u hu v hv=>?_⟩
  rcases Bi.mp hu with hu|hu
  .exact h.ua v (Fe.mp hv) u hu
  .exact h.ub v (Fe.mp hv) u hu
def Mh.done {a b o:Array Keyed} {x y:Nat} (h:Mh lt kf a b o x y) (sa:Sd lt kf a.toList) (sb:Sd lt kf b.toList) (hz:x=0\/y=0):Rs lt kf a b (a.extract 0 x++b.extract 0 y++o.reverse):=h.fin sa sb fun v hv u hu=>by
 rcases hz with rfl|rfl
 .rw[C6]at hv;cases hv
 .rw[C6]at hu;cases hu
end
section
variable {prog:Program} {w:World} {A:Around} {E:VP} {s:Shared} {κt:Type} {lt:κt->κt->Bool} {kf:Keyed->κt} {κ0:SortKind} {it:Array Keyed}
def Kh (O:Srt.Ord lt) {a:Array Keyed} (sa:Sd lt kf a.toList) (n:Nat):∀i j u v,i<=j->j<n->a.toList[0+i]? =some u->a.toList[0+j]? =some v->le lt kf u v:=fun i j u v hij _ h1 h2=>sa.at O (by lia) h1 h2
def DZ {l:List Keyed} {n:Nat} {z:Keyed} (hz:z∈l.take n):∃i,i<n/\l[0+i]? =some z:=by
 obtain⟨j,hj⟩:=Ds.mp hz;have hjl:j<n:=by
  have:=(Aq.mp hj).1;rw[A5]at this;lia
 rw[Bv hjl]at hj;exact⟨j,hjl,by rw[Br];exact hj⟩
abbrev LSh:=Option (Array Keyed)×Nat×Nat×Array Keyed×Nat×Nat×Nat
noncomputable def hi1 (a b o:Array Keyed) (x y g ca cb:Nat):StateT SortSt Sem (ForInStep LSh):=do
 let u <-elem' a (x-1)
 if x-1==0 then
  pure (.done (some (a.extract 0 (x-1)++b.extract 0 y++(o.push u).reverse),x-1,y,o.push u,g,ca,cb))
 else if ca<7 && cb<7 then
  pure (.done (none,x-1,y,o.push u,g,ca,cb))
 else
  pure (.yield (none,x-1,y,o.push u,g,ca,cb))
def hi2 (a b o:Array Keyed) (x y g ca cb:Nat):StateT SortSt Sem (ForInStep LSh):=do
 let v <-elem' b (y-1)
 if y-1==1 then
  pure (.done (some (b.extract 0 (y-1)++a.extract 0 x++(o.push v).reverse),x,y-1,o.push v,g,ca,cb))
 else
  let u <-elem' a (x-1)
  let r <-qm true u b 0 (y-1) (y-1-1)
  match r with
  |some p=>
   if y-1-p > 0 then
    if p==1 then
     pure (.done (some (b.extract 0 p++a.extract 0 x++(o.push v++(b.extract p (y-1)).reverse).reverse),x,p,o.push v++(b.extract p (y-1)).reverse,g,ca,y-1-p))
    else if p==0 then
     pure (.done (some (a.extract 0 x++b.extract 0 p++(o.push v++(b.extract p (y-1)).reverse).reverse),x,p,o.push v++(b.extract p (y-1)).reverse,g,ca,y-1-p))
    else hi1 a b (o.push v++(b.extract p (y-1)).reverse) x p g ca (y-1-p)
   else hi1 a b (o.push v) x (y-1) g ca (y-1-p)
  |_=>pure (.done (some (a.extract 0 x++b.extract 0 (y-1)++(o.push v).reverse),x,y-1,o.push v,g,ca,cb))
def hi3 (a b o:Array Keyed) (x y g ca cb:Nat):StateT SortSt Sem (ForInStep LSh):=do
 sgP g
 let v <-elem' b (y-1)
 let r <-qm false v a 0 x (x-1)
 match r with
 |some p=>
  if x-p > 0 then
   if p==0 then
    pure (.done (some (a.extract 0 p++b.extract 0 y++(o++(a.extract p x).reverse).reverse),p,y,o++(a.extract p x).reverse,g,x-p,cb))
   else hi2 a b (o++(a.extract p x).reverse) p y g (x-p) cb
  else hi2 a b o x y g (x-p) cb
 |_=>pure (.done (some (a.extract 0 x++b.extract 0 y++o.reverse),x,y,o,g,ca,cb))
section
variable {a b:Array Keyed} {st:SortSt} {R:ForInStep LSh->SortSt->Prop} {N:Nat}
variable (O:Srt.Ord lt) (hc:Cmp prog w A E s lt kf κ0 it) (hk:kindOf st=κ0) (ha:∀u∈a.toList,u∈it.toList) (hb:∀u∈b.toList,u∈it.toList) (sa:Sd lt kf a.toList) (sb:Sd lt kf b.toList) (first:∀{o:Array Keyed} {x y:Nat},Mh lt kf a b o x y->y=1->Rs lt kf a b (b.extract 0 y++a.extract 0 x++o.reverse)) (hd:∀o x y g ca cb r g',Rs lt kf a b r->R (.done (some r,x,y,o,g,ca,cb)) (zB st g')) (hn:∀o x y g ca cb g',Mh lt kf a b o x y->1<=x->2<=y->x<=a.size->y<=b.size->x+y+1<=N->R (.done (none,x,y,o,g,ca,cb)) (zB st g')/\R (.yield (none,x,y,o,g,ca,cb)) (zB st g'))
include O hc hk ha hb sa sb first hd hn
theorem Ki {o:Array Keyed} {x y g ca cb g':Nat} (hM:Mh lt kf a b o x y) (hx:1<=x) (hy:2<=y) (hxa:x<=a.size) (hyb:y<=b.size) (hN:x+y+1<=N) (hu:∀u,a.toList[x-1]? =some u->∀z∈b.toList.take y,le lt kf z u):wpS (model prog w) A E s (hi1 a b o x y g ca cb) R (zB st g'):=by
 obtain⟨u,u1,u2,u3⟩:=yD (a:=a) (i:=x-1) (by lia)
 refine Ac (yy u1 ?_)
 have hT:=Mh.a O (x:=x-1) (by rw[Nat.sub_add_cancel hx];exact hM) sa u2 (hu u u2)
 split
 .rename_i ex
  exact Ad (hd _ _ _ _ _ _ _ _ (hT.done sa sb (.inl (Af.mp ex))))
 .rename_i ex
  have n3: ¬(x-1=0):=fun z=>ex (Af.mpr z)
  have:=hn _ _ _ g ca cb g' hT (by lia) hy (by lia) hyb (by lia)
  split
  .exact Ad this.1
  .exact Ad this.2
theorem Kj {o:Array Keyed} {x y g ca cb g':Nat} (hM:Mh lt kf a b o x y) (hx:1<=x) (hy:2<=y) (hxa:x<=a.size) (hyb:y<=b.size) (hN:x+y+1<=N) (hv:∀v,b.toList[y-1]? =some v->∀z∈a.toList.take x,le lt kf z v):wpS (model prog w) A E s (hi2 a b o x y g ca cb) R (zB st g'):=by
 obtain⟨v,v1,v2,v3⟩:=yD (a:=b) (i:=y-1) (by lia)
 obtain⟨u,u1,u2,u3⟩:=yD (a:=a) (i:=x-1) (by lia)
 refine Ac (yy v1 ?_)
 have hP:=Mh.b O (y:=y-1) (by rw[show y-1+1=y by lia];exact hM) sb v2 (hv v v2)
 by_cases ey:(y-1==1)=true
 .rw[Aa ey]
  exact Ad (hd _ _ _ _ _ _ _ _ (first hP (Af.mp ey)))
 rw[Ab ey];have ey': ¬y-1=1:=fun z=>ey (Af.mpr z)
 refine Ac (yy u1 (Ac (HL O hc hk (ha u u3) hb (by lia) (by lia) (Kh O sb (y-1)) fun m hmn m1 m2=>?_)))
 dsimp only;have hu:∀z∈b.toList.take m,le lt kf z u:=fun z hz=>by
  obtain⟨i,i1,i3⟩:=DZ hz;exact AV O (m1 i z i1 i3)
 by_cases hm0:y-1-m > 0
 .have hR:=hP.bs O sb hmn (by lia) fun i e i1 i2 he z hz=>le_trans O (sa.take O u2 (by rw[Nat.sub_add_cancel hx];exact hz)) (m2 i e i1 i2 (by rw[Br];exact he))
  rw[Aa hm0]
  by_cases ey2:(m==1)=true
  .rw[Aa ey2]
   exact Ad (hd _ _ _ _ _ _ _ _ (first hR (Af.mp ey2)))
  rw[Ab ey2]
  by_cases ey3:(m==0)=true
  .rw[Aa ey3]
   exact Ad (hd _ _ _ _ _ _ _ _ (hR.done sa sb (.inr (Af.mp ey3))))
  rw[Ab ey3];have n1: ¬m=1:=fun z=>ey2 (Af.mpr z)
  have n2: ¬m=0:=fun z=>ey3 (Af.mpr z)
  exact Ki O hc hk ha hb sa sb first hd hn hR hx (by lia) hxa (by lia) (by lia) fun u' h'=>by rw[u2]at h';cases h';exact hu
 .have hm0':m=y-1:=by lia
  rw[Ab hm0];rw[hm0']at hu;exact Ki O hc hk ha hb sa sb first hd hn hP hx (by lia) hxa (by lia) (by lia) fun u' h'=>by rw[u2]at h';cases h';exact hu
theorem Pt {o:Array Keyed} {x y g ca cb g':Nat} (hM:Mh lt kf a b o x y) (hx:1<=x) (hy:2<=y) (hxa:x<=a.size) (hyb:y<=b.size) (hN:x+y+1<=N):wpS (model prog w) A E s (hi3 a b o x y g ca cb) R (zB st g'):=by
 obtain⟨v,v1,v2,v3⟩:=yD (a:=b) (i:=y-1) (by lia)
 refine Ac ?_
 rw[Gu]
 refine Ce ?_
 refine Ac (yy v1 (Ac (HK O hc hk (hb v v3) ha (by lia) (by lia) (Kh O sa x) fun p hpn k1 k2=>?_)))
 dsimp only;have hv:∀z∈a.toList.take p,le lt kf z v:=fun z hz=>by
  obtain⟨i,i1,i3⟩:=DZ hz;exact k1 i z i1 i3
 by_cases hk0:x-p > 0
 .have hP:Mh lt kf a b (o++(a.extract p x).reverse) p y:=hM.as O sa hpn hxa fun i e i1 i2 he z hz=>le_trans O (sb.take O v2 (by rw[show y-1+1=y by lia];exact hz)) (AV O (k2 i e i1 i2 (by rw[Br];exact he)))
  rw[Aa hk0]
  by_cases ex:(p==0)=true
  .rw[Aa ex]
   exact Ad (hd _ _ _ _ _ _ _ g (hP.done sa sb (.inl (Af.mp ex))))
  rw[Ab ex];have n1: ¬p=0:=fun z=>ex (Af.mpr z)
  exact Kj O hc hk ha hb sa sb first hd hn (g':=g) hP (by lia) hy (by lia) hyb (by lia) fun v' h'=>by rw[v2]at h';cases h';exact hv
 .rw[Ab hk0]
  have hp0:p=x:=by lia
  rw[hp0]at hv;exact Kj O hc hk ha hb sa sb first hd hn (g':=g) hM hx hy hxa hyb hN fun v' h'=>by rw[v2]at h';cases h';exact hv
end
def Pu (O:Srt.Ord lt) (hc:Cmp prog w A E s lt kf κ0 it) {a b:Array Keyed} {Q:Array Keyed->SortSt->Prop} {st:SortSt} (hk:kindOf st=κ0) (ha:∀u∈a.toList,u∈it.toList) (hb:∀u∈b.toList,u∈it.toList) (sa:Sd lt kf a.toList) (sb:Sd lt kf b.toList)
  (a1:1<=a.size) (b1:1<=b.size) (hf:∀e,b.toList[0]? =some e->∀v∈a.toList,le lt kf e v) (hl:∀v∈b.toList,∀e,a.toList[a.size-1]? =some e->le lt kf v e)
  (q:∀r g,Rs lt kf a b r->Q r (zB st g)):wpS (model prog w) A E s (mhiP a b) Q st:=by
 have first:∀{o:Array Keyed} {x y:Nat},Mh lt kf a b o x y->y=1->Rs lt kf a b (b.extract 0 y++a.extract 0 x++o.reverse):=fun {o x y} h hy=>(h.swap.fin sb sa fun v hv u hu=>by
  subst hy;obtain⟨i,hi,he⟩:=DZ hv;have:i=0:=by lia
  subst this;exact hf v he u (Bc hu)).swap
 obtain⟨f0,f1,f2,f3⟩:=yD (a:=a) (i:=a.size-1) (by lia)
 have m0:Mh lt kf a b #[f0] (a.size-1) b.size:=by
  refine⟨?_,Fw _ _,fun u hu v hv=>?_,fun u hu v hv=>?_⟩
  .rw[DY f2,Eg (by rw[Ar];lia),Eg (by rw[Ar];lia)];exact List.Perm.refl _
  .rw[Bm.mp hu]
   exact sa.take O f2 (by rw[Kf f2];exact B8 _ hv)
  .rw[Bm.mp hu];exact hl v (Bc hv) f0 f2
 rw[Po]
 refine Ac (CN ?_)
 refine Ac (yy f1 ?_)
 have q0:∀r,Rs lt kf a b r->Q r st:=fun r hr=>q r (gallopOf st) hr
 refine yQ (fun hb1=>Ad (q0 _ (m0.done sa sb (.inl (Af.mp hb1))))) fun hb1=>?_
 have hb1': ¬a.size-1=0:=fun z=>hb1 (Af.mpr z)
 refine yQ (fun ha1=>Ad (q0 _ (first m0 (Af.mp ha1)))) fun ha1=>?_
 have ha1': ¬b.size=1:=fun z=>ha1 (Af.mpr z)
 refine Ac (Cf ?_)
 refine Ac (Bg (Bh (I:=fun i c st'=> ∃o x y g,c=(none,x,y,o,g)/\(∃g',st'=zB st g')/\Mh lt kf a b o x y/\1<=x/\2<=y/\x<=a.size/\y<=b.size/\i+1+(x+y)<=a.size+b.size)
  (Q:=fun c st'=> ∃r d g',c=(some r,d)/\st'=zB st g'/\Rs lt kf a b r) ?step ?fin ?init) ?post)
 case init=>exact⟨_,_,_,_,rfl,⟨gallopOf st,rfl⟩,m0,by lia,by lia,by lia,by lia,by lia⟩
 case fin=>
  rintro c st' ⟨o,x,y,g,rfl,_,_,h1,h2,h3,h4,h5⟩;lia
 case post=>
  rintro c st' ⟨r,d,g',rfl,rfl,hr⟩;exact Ad (q r g' hr)
 case step=>
  rintro i c st' _ hi ⟨o,x,y,g,rfl,⟨g0,rfl⟩,hM,hx,hy,hxa,hyb,hxy⟩
  refine Ac (Bg (Bh (I:=fun j c st'=> ∃o' x' y' ca cb,c=(none,x',y',o',ca,cb)/\st'=zB st g0/\Mh lt kf a b o' x' y'/\1<=x'/\2<=y'/\x'<=a.size/\y'<=b.size/\x'+y'+j<=x+y)
   (Q:=fun c st'=>st'=zB st g0/\((∃r d,c=(some r,d)/\Rs lt kf a b r)\/∃o' x' y' ca cb,c=(none,x',y',o',ca,cb)/\Mh lt kf a b o' x' y'/\1<=x'/\2<=y'/\x'<=a.size/\y'<=b.size/\x'+y'+1<=x+y)) ?_ ?_ ?_) ?_)
  .rintro j c st' _ hj ⟨o',x',y',ca,cb,rfl,rfl,hM',hx',hy',hxa',hyb',hxy'⟩
   obtain⟨u,u1,u2,u3⟩:=yD (a:=a) (i:=x' - 1) (by lia)
   obtain⟨v,v1,v2,v3⟩:=yD (a:=b) (i:=y' - 1) (by lia)
   refine Ac (yy v1 (Ac (yy u1 (Ac (hc v u _ _ (hb v v3) (ha u u3) hk ?_)))))
   cases e:lt (kf v) (kf u) with
   |true=>
    refine yQ (fun _=>?_) (fun h=>absurd rfl h)
    refine Ac (yy u1 ?_)
    have hN:=Mh.a O (x:=x' - 1) (by rw[show x' - 1+1=x' by lia];exact hM') sa u2 fun z hz=>le_trans O (sb.take O v2 (by rw[show y' - 1+1=y' by lia];exact hz)) (AV O e)
    refine yQ (fun ey=>Ad ⟨rfl,.inl ⟨_,_,rfl,hN.done sa sb (.inl (Af.mp ey))⟩⟩) fun ey=>?_
    have ey': ¬x' - 1=0:=fun z=>ey (Af.mpr z)
    exact yQ (fun _=>Ad ⟨rfl,.inr ⟨_,x' - 1,y',_,_,rfl,hN,by lia,hy',by lia,hyb',by lia⟩⟩) fun _=>Ad ⟨_,x' - 1,y',_,_,rfl,rfl,hN,by lia,hy',by lia,hyb',by lia⟩
   |false=>
    refine yQ (fun h=>absurd h A2) (fun _=>?_)
    refine Ac (yy v1 ?_)
    have hN:=Mh.b O (y:=y' - 1) (by rw[show y' - 1+1=y' by lia];exact hM') sb v2 fun z hz=>le_trans O (sa.take O u2 (by rw[show x' - 1+1=x' by lia];exact hz)) (show le lt kf u v from e)
    refine yQ (fun ex=>Ad ⟨rfl,.inl ⟨_,_,rfl,first hN (Af.mp ex)⟩⟩) fun ex=>?_
    have ex': ¬y' - 1=1:=fun z=>ex (Af.mpr z)
    exact yQ (fun _=>Ad ⟨rfl,.inr ⟨_,x',y' - 1,_,_,rfl,hN,hx',by lia,hxa',by lia,by lia⟩⟩) fun _=>Ad ⟨_,x',y' - 1,_,_,rfl,rfl,hN,hx',by lia,hxa',by lia,by lia⟩
  .rintro c st' ⟨o',x',y',ca,cb,rfl,rfl,hM',hx',hy',hxa',hyb',hxy'⟩
   lia
  .exact⟨o,x,y,_,_,rfl,rfl,hM,hx,hy,hxa,hyb,by lia⟩
  .rintro c st' ⟨rfl,⟨r,d,rfl,hr⟩|⟨o',x',y',ca,cb,rfl,hM',hx',hy',hxa',hyb',hxy'⟩⟩
   .exact Ad ⟨r,_,g0,rfl,rfl,hr⟩
   .refine Ac (CN ?_)
    refine Ac (Bg (Bh (I:=fun j c st'=> ∃o' x' y' g1 ca cb,c=(none,x',y',o',g1,ca,cb)/\(∃g',st'=zB st g')/\Mh lt kf a b o' x' y'/\1<=x'/\2<=y'/\x'<=a.size/\y'<=b.size/\x'+y'+1<=x+y)
     (Q:=fun c st'=>(∃g',st'=zB st g')/\((∃r d,c=(some r,d)/\Rs lt kf a b r)\/∃o' x' y' g1 ca cb,c=(none,x',y',o',g1,ca,cb)/\Mh lt kf a b o' x' y'/\1<=x'/\2<=y'/\x'<=a.size/\y'<=b.size/\x'+y'+1<=x+y)) ?_ ?_ ?_) ?_)
    .rintro j c st' _ hj ⟨o',x',y',g1,ca,cb,rfl,⟨g',rfl⟩,hM',hx',hy',hxa',hyb',hxy'⟩
     have key:=fun g2 (R:ForInStep LSh->SortSt->Prop) h1 h2=>Pt (R:=R) (ca:=ca) (cb:=cb) (g:=g2) (g':=g') O hc hk ha hb sa sb first h1 h2 hM' hx' hy' hxa' hyb' hxy'
     exact yQ (fun _=>key (g1-1) _ (fun o x y g ca cb r g' hr=>⟨⟨_,rfl⟩,.inl ⟨_,_,rfl,hr⟩⟩) (fun o x y g ca cb g' h1 h2 h3 h4 h5 h6=>⟨⟨⟨_,rfl⟩,.inr ⟨_,_,_,_,_,_,rfl,h1,h2,h3,h4,h5,h6⟩⟩,⟨_,_,_,_,_,_,rfl,⟨_,rfl⟩,h1,h2,h3,h4,h5,h6⟩⟩)) fun _=>key g1 _ (fun o x y g ca cb r g' hr=>⟨⟨_,rfl⟩,.inl ⟨_,_,rfl,hr⟩⟩) (fun o x y g ca cb g' h1 h2 h3 h4 h5 h6=>⟨⟨⟨_,rfl⟩,.inr ⟨_,_,_,_,_,_,rfl,h1,h2,h3,h4,h5,h6⟩⟩,⟨_,_,_,_,_,_,rfl,⟨_,rfl⟩,h1,h2,h3,h4,h5,h6⟩⟩)
    .rintro c st' ⟨o',x',y',g1,ca,cb,rfl,hst,hr⟩
     exact⟨hst,.inr ⟨_,_,_,_,_,_,rfl,hr⟩⟩
    .exact⟨_,_,_,_,_,_,rfl,⟨g0,rfl⟩,hM',hx',hy',hxa',hyb',hxy'⟩
    .rintro c st' ⟨⟨g',rfl⟩,⟨r,d,rfl,hr⟩|⟨o',x',y',g1,ca,cb,rfl,hM',hx',hy',hxa',hyb',hxy'⟩⟩
     .exact Ad ⟨r,_,g',rfl,rfl,hr⟩
     .refine Ac ?_
      rw[Gu]
      refine Ce (Ad ⟨o',x',y',_,rfl,⟨_,rfl⟩,hM',hx',hy',hxa',hyb',by lia⟩)
end
noncomputable def wr (xs:Array Keyed) (off:Nat) (r:Array Keyed):Array Keyed:=r.toList.zipIdx.foldl (fun a p=>a.setIfInBounds (off+p.2) p.1) xs
def Pv (i:Nat):mergeAt' i=(do
 let st <-get
 let (some (x,n,pw),some (y,m,_)):=((pendingOf st)[i]?,(pendingOf st)[i+1]?)
  |unsupported "internal:list.sort.pending"
 set (setPending st (((pendingOf st).setIfInBounds i (x,n+m,pw)).eraseIdxIfInBounds (i+1)))
 let some k <-qm false (<-elem' (arrOf st) y) (arrOf st) x n 0
  |return false
 let (x,n):=(x+k,n-k)
 if n==0 then
  return true
 let some m <-qm true (<-elem' (arrOf st) (x+n-1)) (arrOf st) y m (m-1)
  |return false
 if m==0 then
  return true
 let u:=(arrOf st).extract x y
 let v:=(arrOf st).extract y (y+m)
 let z <-if n<=m then mloP u v else mhiP u v
 modify fun st=>setArr st (wr (arrOf st) x z)
 return (failedOf (<-get)).isNone):=rfl
theorem Kk:∀(r:List Keyed) (xs:Array Keyed) (off j:Nat),off+j+r.length<=xs.size->((r.zipIdx j).foldl (fun a p=>a.setIfInBounds (off+p.2) p.1) xs).toList=xs.toList.take (off+j)++r++xs.toList.drop (off+j+r.length)
 | [],xs,off,j,h=>by
  show xs.toList=xs.toList.take (off+j)++[]++xs.toList.drop (off+j+0);rw[Bo,Dj,Bx]
 |e::r,xs,off,j,h=>by
  rw[Ay]at h;rw[List.zipIdx_cons,Dh];have ih:=Kk r (xs.setIfInBounds (off+j) e) off (j+1) (by rw[Array.size_setIfInBounds];lia)
  rw[ih,Array.toList_setIfInBounds];have hl:off+j<xs.toList.length:=by rw[Ar];lia
  rw[show off+(j+1)=off+j+1 by lia,List.take_set,List.drop_set_of_lt (by lia),Dt,z0 hl,Ay]
  rw[show off+j+1+r.length=off+j+(r.length+1) by lia]
  congr 1
  rw[List.set_append_right _ _ (by rw[A5];lia),show off+j-(xs.toList.take (off+j)).length=0 by rw[A5];lia]
  simp
def Pw {xs r:Array Keyed} {off:Nat} (h:off+r.size<=xs.size):(wr xs off r).toList=xs.toList.take off++r.toList++xs.toList.drop (off+r.size):=by
 unfold wr;have:=Kk r.toList xs off 0 (by rw[Ar];lia)
 rw[Dj,Ar]at this;exact this
section
variable {prog:Program} {w:World} {A:Around} {E:VP} {s:Shared} {κt:Type} {lt:κt->κt->Bool} {kf:Keyed->κt} {κ0:SortKind} {it:Array Keyed}
def Pend (lt:κt->κt->Bool) (kf:Keyed->κt):Nat->List (List Keyed)->List (Nat×Nat×Nat)->Prop
 |_,[],[]=>True
 |off,L::Ls,p::ps=>p.1=off/\p.2.1=L.length/\1<=L.length/\Sd lt kf L/\Pend lt kf (off+L.length) Ls ps
 |_,_,_=>False
theorem Pend.len {off:Nat}:∀{Ls:List (List Keyed)} {ps:List (Nat×Nat×Nat)} {off:Nat},Pend lt kf off Ls ps->Ls.length=ps.length
 | [],[],_,_=>rfl
 |L::Ls,p::ps,_,h=>by rw[Ay,Ay,Pend.len (off:=0) h.2.2.2.2]
 | [],_::_,_,h=>h.elim
 |_::_,[],_,h=>h.elim
theorem Pend.pair:∀{i:Nat} {Ls:List (List Keyed)} {ps:List (Nat×Nat×Nat)} {off:Nat},Pend lt kf off Ls ps->i+1<Ls.length->∃(X Y:List (List Keyed)) (L M:List Keyed) (p q:Nat×Nat×Nat),Ls=X++L::M::Y/\X.length=i/\ps[i]? =some p/\ps[i+1]? =some q/\
  p.1=off+X.flatten.length/\p.2.1=L.length/\q.1=off+X.flatten.length+L.length/\q.2.1=M.length/\1<=L.length/\1<=M.length/\Sd lt kf L/\Sd lt kf M/\
  ∀(N:List Keyed) (pw:Nat),N.length=L.length+M.length->Sd lt kf N->Pend lt kf off (X++N::Y) ((ps.set i (p.1,p.2.1+q.2.1,pw)).eraseIdx (i+1))
 |0,L::M::Ls,p::q::ps,off,h,hi=>by
  obtain⟨p1,p2,p3,p4,q1,q2,q3,q4,r⟩:=h
  refine⟨[],Ls,L,M,p,q,rfl,rfl,rfl,rfl,?_,p2,?_,q2,p3,q3,p4,q4,fun N pw hN sN=>?_⟩
  .simpa using p1
  .simpa using q1
  .show Pend lt kf off (N::Ls) (((p.1,p.2.1+q.2.1,pw)::q::ps).eraseIdx 1)
   refine⟨p1,?_,by lia,sN,?_⟩
   .show p.2.1+q.2.1=_;lia
   .rw[hN]
    show Pend lt kf (off+(L.length+M.length)) Ls ps;rw[<-Nat.add_assoc];exact r
 |i+1,L::Ls,p::ps,off,h,hi=>by
  obtain⟨p1,p2,p3,p4,r⟩:=h;obtain⟨X,Y,L',M,p',q',e,hX,h1,h2,h3,h4,h5,h6,h7,h8,h9,h10,h11⟩:=Pend.pair (i:=i) r (by rw[Ay]at hi;lia)
  refine⟨L::X,Y,L',M,p',q',by rw[e];rfl,by rw[Ay,hX],h1,h2,?_,h4,?_,h6,h7,h8,h9,h10,fun N pw hN sN=>?_⟩
  .rw[h3,B3,An];lia
  .rw[h5,B3,An];lia
  .exact⟨p1,p2,p3,p4,h11 N pw hN sN⟩
 |_,[],_,_,_,hi=>by simp at hi
 |0,[L],_,_,_,hi=>by simp at hi
 |_,_::_,[],_,h,_=>h.elim
 |0,_::_::_,[_],_,h,_=>h.2.2.2.2.elim
structure Ok (lt:κt->κt->Bool) (kf:Keyed->κt) (κ0:SortKind) (st:SortSt) (Ls:List (List Keyed)) (rest:List Keyed):Prop where
 kind:kindOf st=κ0
 fail:failedOf st=none
 arr:(arrOf st).toList=Ls.flatten++rest
 pend:Pend lt kf 0 Ls (pendingOf st).toList
def seg {l P T R:List Keyed} (e:l=P++T++R) {i:Nat} (hi:i<T.length):l[P.length+i]? =T[i]? :=by
 rw[e,Aw,Bk (by lia),Fg,A8 hi]
def Px {st st':SortSt} {Q:PUnit->SortSt->Prop} (h:Q ⟨⟩ st'):wpS (model prog w) A E s (set st':StateT SortSt Sem PUnit) Q st:=by
 unfold wpS;rw[StateT.run_set];exact Ai ⟨rfl,h⟩
def Kl {xs:Array Keyed} {P T R:List Keyed} (e:xs.toList=P++T++R) (a b:Nat) (hb:b<=T.length):(xs.extract (P.length+a) (P.length+b)).toList=(T.drop a).take (b-a):=by
 rw[Cs,Ct,e,show P.length+b-(P.length+a)=b-a by lia,Aw,List.drop_append,Eg (by lia),B4,Fg]
 by_cases h:a<=T.length
 .rw[Fx h,Fy (by rw[Cc];lia)]
 .rw[show b-a=0 by lia,C6,C6]
def Km (O:Srt.Ord lt) (hc:Cmp prog w A E s lt kf κ0 it) {i:Nat} {Q:Bool->SortSt->Prop} {st:SortSt} {Ls:List (List Keyed)} {rest:List Keyed} (h:Ok lt kf κ0 st Ls rest) (hi:i+1<Ls.length) (hm:∀u∈(arrOf st).toList,u∈it.toList)
  (q:∀st' Ls',Ok lt kf κ0 st' Ls' rest->Ls'.length+1=Ls.length->Ls'.flatten.Perm Ls.flatten->Q true st'):wpS (model prog w) A E s (mergeAt' i) Q st:=by
 obtain⟨X,Y,L,M,p,r,e,hX,h1,h2,h3,h4,h5,h6,h7,h8,sL,sM,hP⟩:=h.pend.pair hi;rw[Br]at h3 h5;obtain⟨px,pn,pw⟩:=p;obtain⟨rx,rn,rw'⟩:=r;dsimp only at h3 h4 h5 h6 hP;subst h3 h4 h5 h6;have harr:(arrOf st).toList=X.flatten++(L++M)++(Y.flatten++rest):=by
  rw[h.arr,e];simp[Aw]
 have hsz:(arrOf st).size=X.flatten.length+(L.length+M.length)+(Y.flatten++rest).length:=by
  rw[<-Ar,harr,An,An,An]
 have hL:∀j,j<L.length->(arrOf st).toList[X.flatten.length+j]? =L[j]? :=fun j hj=>by
  rw[seg harr (by rw[An];lia),A8 hj]
 have hM:∀j,j<M.length->(arrOf st).toList[X.flatten.length+L.length+j]? =M[j]? :=fun j hj=>by
  rw[Nat.add_assoc,seg harr (by rw[An];lia),Bk (by lia),Fg]
 have fin:∀(N:List Keyed) (st':SortSt),kindOf st'=κ0->failedOf st'=none->(arrOf st').toList=X.flatten++N++(Y.flatten++rest)->N.Perm (L++M)->Sd lt kf N->
   (pendingOf st')=((pendingOf st).setIfInBounds i (X.flatten.length,L.length+M.length,pw)).eraseIdxIfInBounds (i+1)->Q true st':=fun N st' k1 k2 k3 k4 k5 k6=>by
  refine q st' (X++N::Y) ⟨k1,k2,by rw[k3];simp[Aw],?_⟩ ?_ ?_
  .have hN:N.length=L.length+M.length:=by rw[k4.length_eq,An]
   have:=hP N pw hN k5;rw[k6];have el:i+1<((pendingOf st).setIfInBounds i (X.flatten.length,L.length+M.length,pw)).size:=by
    rw[Array.size_setIfInBounds,<-Ar,<-h.pend.len (off:=0)];exact hi
   rw[Array.eraseIdxIfInBounds,dif_pos el,Array.toList_eraseIdx,Array.toList_setIfInBounds];exact this
  .rw[e,An,An,Ay,Ay,Ay];lia
  .rw[e]
   simp only[List.flatten_append,B3];rw[<-Aw L];exact (k4.append_right _).append_left _
 have toA:∀{j:Nat} {u:Keyed},(arrOf st).toList[j]? =some u->(arrOf st)[j]? =some u/\u∈it.toList:=fun {j u} hu=>⟨by rw[<-Ck];exact hu,hm u (Am hu)⟩
 obtain⟨b0,hb0⟩:∃b0,M[0]? =some b0:=⟨M[0],z0 (by lia)⟩
 obtain⟨al,hal⟩:∃al,L[L.length-1]? =some al:=⟨L[L.length-1],z0 (by lia)⟩
 have hb0':=toA (j:=X.flatten.length+L.length) (u:=b0) (by have:=hM 0 (by lia);rw[Dj]at this;rw[this];exact hb0)
 have hal':=toA (j:=X.flatten.length+(L.length-1)) (u:=al) (by rw[hL _ (by lia)];exact hal)
 rw[Pv]
 refine Ac (Cf ?_)
 rw[show (pendingOf st)[i]? =some (X.flatten.length,L.length,pw) by rw[<-Ck];exact h1,show (pendingOf st)[i+1]? =some (X.flatten.length+L.length,M.length,rw') by rw[<-Ck];exact h2]
 dsimp only
 refine Ac (Px ?_)
 have sorL:∀i j u v,i<=j->j<L.length->(arrOf st).toList[X.flatten.length+i]? =some u->(arrOf st).toList[X.flatten.length+j]? =some v->le lt kf u v:=fun i j u v hij hj hu hv=>by
  rw[hL i (by lia)]at hu
  rw[hL j hj]at hv;exact sL.at O hij hu hv
 have sorM:∀i j u v,i<=j->j<M.length->(arrOf st).toList[X.flatten.length+L.length+i]? =some u->(arrOf st).toList[X.flatten.length+L.length+j]? =some v->le lt kf u v:=fun i j u v hij hj hu hv=>by
  rw[hM i (by lia)]at hu
  rw[hM j hj]at hv;exact sM.at O hij hu hv
 have toal:∀u∈L,le lt kf u al:=fun u hu=>by
  obtain⟨j,hj⟩:=Ds.mp hu;have:=(Aq.mp hj).1;exact sL.at O (by lia) hj hal
 have fromb:∀u∈M,le lt kf b0 u:=fun u hu=>by
  obtain⟨j,hj⟩:=Ds.mp hu;exact sM.at O (B9 _) hb0 hj
 have both:(∀u∈L,∀v∈M,le lt kf u v)->Sd lt kf (L++M):=fun hz=>Cn.mpr ⟨sL,sM,hz⟩
 refine Ac (yy hb0'.1 (Ac (HK O hc (x:=X.flatten.length) (n:=L.length) h.kind hb0'.2 hm (by lia) (by lia) sorL fun k hkn k1 k2=>?_)))
 have k1':∀u∈L.take k,le lt kf u b0:=fun u hu=>by
  obtain⟨j,hj,hu'⟩:=DZ hu;rw[Br]at hu';exact k1 j u hj (by rw[hL j (by lia)];exact hu')
 have k2':∀u∈L.drop k,le lt kf b0 u:=fun u hu=>by
  obtain⟨j,j1,j2,j3⟩:=Gw (l:=L) (x:=0) (k:=k) (n:=L.length) (by lia) (by rw[Br];exact hu)
  rw[Br]at j3;exact AV O (k2 j u j1 j2 (by rw[hL j j2];exact j3))
 dsimp only
 by_cases n0:(L.length-k==0)=true
 .rw[Aa n0]
  have n0':L.length-k=0:=Af.mp n0;rw[Fd (by lia)]at k1'
  exact Ad (fin (L++M) _ h.kind h.fail harr (List.Perm.refl _) (both fun u hu v hv=>le_trans O (k1' u hu) (fromb v hv)) rfl)
 rw[Ab n0];have n0': ¬L.length-k=0:=fun z=>n0 (Af.mpr z)
 rw[show X.flatten.length+k+(L.length-k)-1=X.flatten.length+(L.length-1) by lia]
 refine Ac (yy hal'.1 (Ac (HL O hc (x:=X.flatten.length+L.length) (n:=M.length) h.kind hal'.2 hm (by lia) (by lia) sorM fun m hmn m1 m2=>?_)))
 have m1':∀u∈M.take m,le lt kf u al:=fun u hu=>by
  obtain⟨j,hj,hu'⟩:=DZ hu;rw[Br]at hu';exact AV O (m1 j u hj (by rw[hM j (by lia)];exact hu'))
 have m2':∀u∈M.drop m,le lt kf al u:=fun u hu=>by
  obtain⟨j,j1,j2,j3⟩:=Gw (l:=M) (x:=0) (k:=m) (n:=M.length) (by lia) (by rw[Br];exact hu)
  rw[Br]at j3;exact m2 j u j1 j2 (by rw[hM j j2];exact j3)
 dsimp only
 by_cases e0:(m==0)=true
 .rw[Aa e0]
  have e0':m=0:=Af.mp e0;rw[e0',Du]at m2';exact Ad (fin (L++M) _ h.kind h.fail harr (List.Perm.refl _) (both fun u hu v hv=>le_trans O (toal u hu) (m2' v hv)) rfl)
 rw[Ab e0];have e0': ¬m=0:=fun z=>e0 (Af.mpr z)
 have eU:((arrOf st).extract (X.flatten.length+k) (X.flatten.length+L.length)).toList=L.drop k:=by
  rw[Kl harr k L.length (by rw[An];lia),Fx hkn,Fy (by rw[Cc];lia),Fd (by rw[Cc];lia)]
 have eV:((arrOf st).extract (X.flatten.length+L.length) (X.flatten.length+L.length+m)).toList=M.take m:=by
  rw[Nat.add_assoc X.flatten.length L.length m,Kl harr L.length (L.length+m) (by rw[An];lia),List.drop_left,Fg]
 have sU:((arrOf st).extract (X.flatten.length+k) (X.flatten.length+L.length)).size=L.length-k:=by rw[<-Ar,eU,Cc]
 have sV:((arrOf st).extract (X.flatten.length+L.length) (X.flatten.length+L.length+m)).size=m:=by rw[<-Ar,eV,A5];lia
 generalize (arrOf st).extract (X.flatten.length+k) (X.flatten.length+L.length)=U at eU sU ⊢;generalize (arrOf st).extract (X.flatten.length+L.length) (X.flatten.length+L.length+m)=W at eV sV ⊢;have inL:∀u∈L,u∈it.toList:=fun u hu=>hm u (by rw[harr];exact B8 _ (Bj _ (B8 _ hu)))
 have inM:∀u∈M,u∈it.toList:=fun u hu=>hm u (by rw[harr];exact B8 _ (Bj _ (Bj _ hu)))
 have pre:(∀u∈U.toList,u∈it.toList)/\(∀u∈W.toList,u∈it.toList)/\Sd lt kf U.toList/\Sd lt kf W.toList/\1<=U.size/\1<=W.size/\(∀e,W.toList[0]? =some e->∀v∈U.toList,le lt kf e v)/\(∀v∈W.toList,∀e,U.toList[U.size-1]? =some e->le lt kf v e):=by
  rw[eU,eV,sU,sV]
  refine⟨fun u hu=>inL u (Eh hu),fun u hu=>inM u (Bc hu),List.Pairwise.drop sL,List.Pairwise.take sM,by lia,by lia,fun e he v hv=>?_,fun v hv e he=>?_⟩
  .rw[Bv (by lia),hb0]at he
   cases he;exact k2' v hv
  .rw[Ee,show k+(L.length-k-1)=L.length-1 by lia,hal]at he
   cases he;exact m1' v hv
 obtain⟨c1,c2,c3,c4,c5,c6,c7,c8⟩:=pre;have post:∀(r:Array Keyed) (g:Nat) (st1:SortSt),kindOf st1=κ0->failedOf st1=none->arrOf st1=arrOf st->pendingOf st1=((pendingOf st).setIfInBounds i (X.flatten.length,L.length+M.length,pw)).eraseIdxIfInBounds (i+1)->Rs lt kf U W r->Q true (setArr (zB st1 g) (wr (arrOf (zB st1 g)) (X.flatten.length+k) r)):=fun r g st1 a1 a2 a3 a4 hr=>by
  obtain⟨hr1,hr2⟩:=hr;rw[eU,eV]at hr1;have hrs:r.size=L.length-k+m:=by
   rw[<-Ar,hr1.length_eq,An,Cc,A5];lia
  refine fin (L.take k++r.toList++M.drop m) _ a1 a2 ?_ ?_ ?_ a4
  .show (wr (arrOf st1) (X.flatten.length+k) r).toList=_
   rw[a3,Pw (by rw[hrs];lia),harr,hrs]
   have t1:(X.flatten++(L++M)++(Y.flatten++rest)).take (X.flatten.length+k)=X.flatten++L.take k:=by
    rw[Aw,List.take_length_add_append,Aw,Fy hkn]
   have t2:(X.flatten++(L++M)++(Y.flatten++rest)).drop (X.flatten.length+k+(L.length-k+m))=M.drop m++(Y.flatten++rest):=by
    rw[show X.flatten.length+k+(L.length-k+m)=X.flatten.length+(L.length+m) by lia,Aw,List.drop_length_add_append,Aw,List.drop_length_add_append,Fx hmn]
   rw[t1,t2];simp only[Aw]
  .have w1:=Bx k L
   have w2:=Bx m M
   refine ((hr1.append_left (L.take k)).append_right (M.drop m)).trans ?_
   rw[<-Aw,w1,Aw,w2]
  .have rin:∀u∈r.toList,u∈L.drop k\/u∈M.take m:=fun u hu=>Bi.mp (hr1.mem_iff.mp hu)
   refine Cn.mpr ⟨Cn.mpr ⟨List.Pairwise.take sL,hr2,fun u hu v hv=>?_⟩,List.Pairwise.drop sM,fun u hu v hv=>?_⟩
   .rcases rin v hv with z|z
    .exact le_trans O (k1' u hu) (k2' v z)
    .exact le_trans O (k1' u hu) (fromb v (Bc z))
   .rcases Bi.mp hu with z|z
    .exact le_trans O (toal u (Bc z)) (m2' v hv)
    .rcases rin u z with z|z
     .exact le_trans O (toal u (Eh z)) (m2' v hv)
     .exact le_trans O (m1' u z) (m2' v hv)
 have fin2:∀(r:Array Keyed) (g:Nat),Rs lt kf U W r->Q (failedOf st).isNone (setArr (zB (setPending st (((pendingOf st).setIfInBounds i (X.flatten.length,L.length+M.length,pw)).eraseIdxIfInBounds (i+1))) g) (wr (arrOf st) (X.flatten.length+k) r)):=fun r g hr=>by
  have:=post r g (setPending st (((pendingOf st).setIfInBounds i (X.flatten.length,L.length+M.length,pw)).eraseIdxIfInBounds (i+1))) h.kind h.fail rfl rfl hr;rw[h.fail];exact this
 split
 .exact Ac (Pn O hc h.kind c1 c2 c3 c4 c5 c6 c7 c8 fun r g hr=>Ac (Ce (Ac (Cf (Ad (fin2 r g hr))))))
 .exact Ac (Pu O hc h.kind c1 c2 c3 c4 c5 c6 c7 c8 fun r g hr=>Ac (Ce (Ac (Cf (Ad (fin2 r g hr))))))
end
section
variable {κt:Type} {lt:κt->κt->Bool} {kf:Keyed->κt}
noncomputable abbrev nil2:Keyed:=(Value.none,Value.none)
abbrev ky (kf:Keyed->κt) (xs:Array Keyed) (i:Nat):κt:=kf (xs.getD i nil2)
def Asc (lt:κt->κt->Bool) (kf:Keyed->κt) (xs:Array Keyed) (lo n:Nat):Prop:=∀i j,i<=j->j<n->lt (ky kf xs (lo+j)) (ky kf xs (lo+i))=false
def Dsc (lt:κt->κt->Bool) (kf:Keyed->κt) (xs:Array Keyed) (lo n:Nat):Prop:=∀i j,i<=j->j<n->lt (ky kf xs (lo+i)) (ky kf xs (lo+j))=false
def Alk (lt:κt->κt->Bool) (kf:Keyed->κt) (xs:Array Keyed) (lo a b:Nat):Prop:=∀i j,a<=i->i<b->a<=j->j<b->lt (ky kf xs (lo+i)) (ky kf xs (lo+j))=false
structure Pr (ys:Array Keyed) (lo:Nat) (xs:Array Keyed):Prop where
 perm:xs.Perm ys
 pre:∀i,i<lo->xs[i]? =ys[i]?
theorem Pr.size {ys xs:Array Keyed} {lo:Nat} (h:Pr ys lo xs):xs.size=ys.size:=h.perm.size_eq
noncomputable abbrev rv (xs:Array Keyed) (i j:Nat):Array Keyed:=mirror xs i j ((j-i) / 2)
def EA {xs ys:Array Keyed} {i j:Nat} (h:xs[i]? =ys[j]?):ky kf xs i=ky kf ys j:=by
 unfold ky;rw[Ej,Ej,h]
def AW {xs:Array Keyed} {i j:Nat} (hj:j<=xs.size) (k:Nat):ky kf (rv xs i j) k=if i<=k/\k<j then ky kf xs (i+j-1-k) else ky kf xs k:=by
 have e:=getElem?_mirror_all (xs:=xs) (i:=i) hj k
 by_cases h:i<=k/\k<j
 .rw[Aa h]at e ⊢;exact EA e
 .rw[Ab h]at e ⊢;exact EA e
theorem Pr.rv {ys xs:Array Keyed} {lo i j:Nat} (h:Pr ys lo xs) (hi:lo<=i) (hj:j<=xs.size):Pr ys lo (rv xs i j):=
 ⟨(mirror_perm _ _ _ _).trans h.perm,fun k hk=>by
  rw[getElem?_mirror_all (xs:=xs) (i:=i) hj k,Ab (by lia)];exact h.pre k hk⟩
def Asc.succ (O:Srt.Ord lt) {xs:Array Keyed} {lo n:Nat} (h:Asc lt kf xs lo n) (h1:1<=n) (e:lt (ky kf xs (lo+n)) (ky kf xs (lo+n-1))=false):Asc lt kf xs lo (n+1):=fun i j hij hj=>by
 by_cases ej:j=n
 .subst ej
  by_cases e2:i=j
  .subst e2;exact Srt.irr O _
  .have:=h i (j-1) (by lia) (by lia)
   rw[show lo+(j-1)=lo+j-1 by lia]at this
   exact O.trans _ _ _ this e
 .exact h i j hij (by lia)
def Dsc.succ (O:Srt.Ord lt) {xs:Array Keyed} {lo n:Nat} (h:Dsc lt kf xs lo n) (h1:1<=n) (e:lt (ky kf xs (lo+n-1)) (ky kf xs (lo+n))=false):Dsc lt kf xs lo (n+1):=fun i j hij hj=>by
 by_cases ej:j=n
 .subst ej
  by_cases e2:i=j
  .subst e2;exact Srt.irr O _
  .have:=h i (j-1) (by lia) (by lia)
   rw[show lo+(j-1)=lo+j-1 by lia]at this
   exact O.trans _ _ _ e this
 .exact h i j hij (by lia)
theorem Dsc.rv {xs:Array Keyed} {lo a n:Nat} (h:Dsc lt kf xs lo n) (hn:lo+n<=xs.size) (al:Alk lt kf xs lo a n) (ha:a<=n):Dsc lt kf (rv xs (lo+a) (lo+n)) lo n:=fun i j hij hj=>by
 rw[AW hn,AW hn]
 by_cases hi:lo+a<=lo+i/\lo+i<lo+n
 .rw[Aa hi,Aa (by lia),show lo+a+(lo+n)-1-(lo+i)=lo+(a+n-1-i) by lia,show lo+a+(lo+n)-1-(lo+j)=lo+(a+n-1-j) by lia]
  exact al _ _ (by lia) (by lia) (by lia) (by lia)
 .rw[Ab hi]
  by_cases hj2:lo+a<=lo+j/\lo+j<lo+n
  .rw[Aa hj2,show lo+a+(lo+n)-1-(lo+j)=lo+(a+n-1-j) by lia]
   exact h _ _ (by lia) (by lia)
  .rw[Ab hj2];exact h i j hij hj
def Dsc.flip {xs:Array Keyed} {lo n:Nat} (h:Dsc lt kf xs lo n) (hn:lo+n<=xs.size):Asc lt kf (Ts.rv xs lo (lo+n)) lo n:=fun i j hij hj=>by
 rw[AW hn,AW hn,Aa (by lia),Aa (by lia),show lo+(lo+n)-1-(lo+j)=lo+(n-1-j) by lia,show lo+(lo+n)-1-(lo+i)=lo+(n-1-i) by lia]
 exact h _ _ (by lia) (by lia)
end
section
variable {prog:Program} {w:World} {A:Around} {E:VP} {s:Shared} {κt:Type} {lt:κt->κt->Bool} {kf:Keyed->κt} {κ0:SortKind} {it:Array Keyed}
def CO (hc:Cmp prog w A E s lt kf κ0 it) {st:SortSt} {xs:Array Keyed} {i j:Nat} {Q:Option Bool->SortSt->Prop} (hk:kindOf st=κ0) (hm:∀u∈xs.toList,u∈it.toList) (hi:i<xs.size) (hj:j<xs.size)
  (q:Q (some (lt (ky kf xs i) (ky kf xs j))) (setArr st xs)):wpS (model prog w) A E s (ltAt' i j) Q (setArr st xs):=by
 obtain⟨u,u1,u2,u3⟩:=yD hi;obtain⟨v,v1,v2,v3⟩:=yD hj;have eu:xs.getD i nil2=u:=by rw[Ej,u1];rfl
 have ev:xs.getD j nil2=v:=by rw[Ej,v1];rfl
 unfold ky at q;rw[eu,ev]at q;rw[ltAt'_eq]
 refine Ac (Cf ?_)
 exact Ac (yy u1 (Ac (yy v1 (hc u v _ Q (hm u u3) (hm v v3) hk q))))
def Gx {st:SortSt} {xs:Array Keyed} {i j:Nat} {Q:Unit->SortSt->Prop} (q:Q () (setArr st (rv xs i j))):wpS (model prog w) A E s (reverseSlice' i j) Q (setArr st xs):=by
 rw[reverseSlice'_eq];exact Ce q
def Py (O:Srt.Ord lt) (hc:Cmp prog w A E s lt kf κ0 it) {st:SortSt} {ys:Array Keyed} {lo nr:Nat} {Q:Option Nat->SortSt->Prop} (hk:kindOf st=κ0) (hm:∀u∈ys.toList,u∈it.toList) (h1:1<=nr) (hs:lo+nr<=ys.size)
  (q:∀n xs,1<=n->n<=nr->Pr ys lo xs->Asc lt kf xs lo n->Q (some n) (setArr st xs)):wpS (model prog w) A E s (countRun' lo nr) Q (setArr st ys):=by
 have hm':∀{xs:Array Keyed},Pr ys lo xs->∀u∈xs.toList,u∈it.toList:=fun {xs} h u hu=>hm u ((Ek.mp h.perm).mem_iff.mp hu)
 have p0:Pr ys lo ys:=⟨Array.Perm.refl _,fun _ _=>rfl⟩
 rw[countRun'_eq];dsimp only
 refine Ac (Bg (Bh (I:=fun x c st'=>st'=setArr st ys/\c=(none,x)/\Asc lt kf ys lo x)
  (Q:=fun c st'=>st'=setArr st ys/\∃n,c=(none,n)/\1<=n/\n<=nr/\Asc lt kf ys lo n/\(n=nr\/lt (ky kf ys (lo+n)) (ky kf ys (lo+n-1))=true)) ?_ ?_ ?_) ?_)
 .rintro x c st' hx1 hx ⟨rfl,rfl,hA⟩
  dsimp only
  refine Ac (CO hc hk hm (by lia) (by lia) ?_)
  cases e:lt (ky kf ys (lo+x)) (ky kf ys (lo+x-1)) with
  |true=>dsimp only;rw[Aa rfl];exact Ad ⟨rfl,x,rfl,hx1,by lia,hA,.inr e⟩
  |false=>dsimp only;rw[Ab (by simp)];exact Ad ⟨rfl,rfl,hA.succ O hx1 e⟩
 .rintro c st' ⟨rfl,rfl,hA⟩
  exact⟨rfl,_,rfl,by lia,by lia,hA,.inl (by lia)⟩
 .exact⟨rfl,rfl,fun i j hij hj=>by
   have:i=j:=by lia
   subst this;exact Srt.irr O _⟩
 rintro c st' ⟨rfl,n,rfl,n1,n2,hA,hcase⟩;dsimp only
 by_cases hn:(n==nr)=true
 .rw[Aa hn];exact Ad (q n ys n1 n2 p0 hA)
 rw[Ab hn];have hn': ¬n=nr:=fun z=>hn (Af.mpr z)
 have hlt:lt (ky kf ys (lo+n)) (ky kf ys (lo+n-1))=true:=hcase.resolve_left hn'
 by_cases hn1:n > 1
 case' pos=>
  rw[Aa hn1]
  refine Ac (CO hc hk hm (by lia) (by lia) ?_)
  cases er:lt (ky kf ys lo) (ky kf ys (lo+n-1))
  case' true=>
   dsimp only;rw[Aa rfl]
   refine Ad (q n ys n1 n2 p0 hA)
  case' false=>
   dsimp only;rw[Ab (by simp)]
   refine Ac (Gx ?_)
   have al:Alk lt kf ys lo 0 n:=fun i j _ hi _ hj=>by
    have h0:=hA 0 i (by lia) hi
    have h2:=hA j (n-1) (by lia) (by lia)
    rw[Dj]at h0;rw[show lo+(n-1)=lo+n-1 by lia]at h2
    exact O.trans _ _ _ (O.trans _ _ _ h2 er) h0
   have pX:Pr ys lo (rv ys lo (lo+n)):=p0.rv (Nat.le_refl _) (by lia)
   have dX:Dsc lt kf (rv ys lo (lo+n)) lo n:=by
    have:=Dsc.rv (a:=0) (fun i j hij hj=>al i j (by lia) (by lia) (by lia) hj) (by lia) al (by lia)
    rw[Dj]at this;exact this
   have dX1:Dsc lt kf (rv ys lo (lo+n)) lo (n+1):=dX.succ O n1 (by
    rw[AW (by lia),AW (by lia),Aa (by lia),Ab (by lia),show lo+(lo+n)-1-(lo+n-1)=lo by lia]
    exact O.trans _ _ _ (O.asym _ _ hlt) er)
 case' neg=>
  rw[Ab hn1];have pX:Pr ys lo ys:=p0;have dX1:Dsc lt kf ys lo (n+1):=Dsc.succ O (fun i j hij hj=>by
   have:i=j:=by lia
   subst this;exact Srt.irr O _) n1 (O.asym _ _ hlt)
 all_goals
  refine Ac (CN ?_)
  refine Ac (Bg (Bh (I:=fun x c st'=> ∃xs p,st'=setArr st xs/\c=(none,x,p)/\Pr ys lo xs/\Dsc lt kf xs lo x/\p+1<=x/\Alk lt kf xs lo (x-(p+1)) x)
   (Q:=fun c st'=> ∃xs m p,st'=setArr st xs/\c=(none,m,p)/\1<=m/\m<=nr/\Pr ys lo xs/\Dsc lt kf xs lo m/\p+1<=m/\Alk lt kf xs lo (m-(p+1)) m) ?_ ?_ ?_) ?_)
  .rintro x c st' hx1 hx ⟨xs,p,rfl,rfl,hP,hD,hp,al⟩
   have hz:=hP.size;dsimp only
   refine Ac (CO hc hk (hm' hP) (by lia) (by lia) ?_)
   have one:∀zs:Array Keyed,Alk lt kf zs lo (x+1-(0+1)) (x+1):=fun zs i j h1 h2 h3 h4=>by
    have:i=j:=by lia
    subst this;exact Srt.irr O _
   cases e:lt (ky kf xs (lo+x)) (ky kf xs (lo+x-1)) with
   |true=>
    dsimp only;rw[Aa rfl]
    by_cases hp0:p > 0
    .rw[Aa hp0]
     refine Ac (Gx (Ad ?_))
     have e1:lo+x-(p+1)=lo+(x-(p+1)):=by lia
     rw[e1];have hD':=hD.rv (a:=x-(p+1)) (by lia) al (by lia)
     refine⟨_,0,rfl,rfl,hP.rv (by lia) (by lia),hD'.succ O (by lia) ?_,by lia,one _⟩
     rw[AW (by lia),AW (by lia),Aa (by lia),Ab (by lia),show lo+(x-(p+1))+(lo+x)-1-(lo+x-1)=lo+(x-(p+1)) by lia]
     have h2:=al (x-(p+1)) (x-1) (by lia) (by lia) (by lia) (by lia)
     rw[show lo+(x-1)=lo+x-1 by lia]at h2
     exact O.trans _ _ _ (O.asym _ _ e) h2
    .rw[Ab hp0]
     exact Ad ⟨xs,0,rfl,rfl,hP,hD.succ O (by lia) (O.asym _ _ e),by lia,one _⟩
   |false=>
    dsimp only;rw[Ab (by simp)]
    refine Ac (CO hc hk (hm' hP) (by lia) (by lia) ?_)
    cases e2:lt (ky kf xs (lo+x-1)) (ky kf xs (lo+x)) with
    |true=>
     dsimp only;rw[Aa rfl];exact Ad ⟨xs,x,p,rfl,rfl,by lia,by lia,hP,hD,hp,al⟩
    |false=>
     dsimp only;rw[Ab (by simp)]
     refine Ad ⟨xs,p+1,rfl,rfl,hP,hD.succ O (by lia) e2,by lia,fun i j i1 i2 j1 j2=>?_⟩
     by_cases ei:i=x
     .subst ei
      by_cases ej:j=i
      .subst ej;exact Srt.irr O _
      .have h2:=al (i-1) j (by lia) (by lia) (by lia) (by lia)
       rw[show lo+(i-1)=lo+i-1 by lia]at h2
       exact O.trans _ _ _ h2 e
     .by_cases ej:j=x
      .subst ej
       have h2:=al i (j-1) (by lia) (by lia) (by lia) (by lia)
       rw[show lo+(j-1)=lo+j-1 by lia]at h2
       exact O.trans _ _ _ e2 h2
      .exact al i j (by lia) (by lia) (by lia) (by lia)
  .rintro c st' ⟨xs,p,rfl,rfl,hP,hD,hp,al⟩
   exact⟨xs,_,p,rfl,rfl,by lia,by lia,hP,hD,hp,al⟩
  .exact⟨_,0,rfl,rfl,pX,dX1,by lia,fun i j h1 h2 h3 h4=>by
    have:i=j:=by lia
    subst this;exact Srt.irr O _⟩
  rintro c st' ⟨xs,m,p,rfl,rfl,m1,m2,hP,hD,hp,al⟩;have hz:=hP.size;dsimp only
  by_cases hp0:p > 0
  case' pos=>
   rw[Aa hp0]
   refine Ac (Gx ?_)
   have e1:lo+m-(p+1)=lo+(m-(p+1)):=by lia
   rw[e1];have hD':=hD.rv (a:=m-(p+1)) (by lia) al (by lia)
   have hP':Pr ys lo (rv xs (lo+(m-(p+1))) (lo+m)):=hP.rv (by lia) (by lia)
   have hz':=hP'.size
  case' neg=>
   rw[Ab hp0];have hD':=hD;have hP':=hP;have hz':=hz
  all_goals
   refine Ac (Gx ?_)
   have hA3:=hD'.flip (by lia)
   have hP3:=hP'.rv (i:=lo) (j:=lo+m) (Nat.le_refl _) (by lia)
   have hz3:=hP3.size
   refine Ac (Bg (Bh (I:=fun x c st'=> ∃zs,st'=setArr st zs/\c=(none,x)/\Pr ys lo zs/\Asc lt kf zs lo x)
    (Q:=fun c st'=> ∃zs n,st'=setArr st zs/\c=(none,n)/\1<=n/\n<=nr/\Pr ys lo zs/\Asc lt kf zs lo n) ?_ ?_ ⟨_,rfl,rfl,hP3,hA3⟩) ?_)
   .rintro x c st' hx1 hx ⟨zs,rfl,rfl,hP4,hA⟩
    have hz4:=hP4.size;dsimp only
    refine Ac (CO hc hk (hm' hP4) (by lia) (by lia) ?_)
    cases e:lt (ky kf zs (lo+x)) (ky kf zs (lo+x-1)) with
    |true=>dsimp only;rw[Aa rfl];exact Ad ⟨zs,x,rfl,rfl,by lia,by lia,hP4,hA⟩
    |false=>dsimp only;rw[Ab (by simp)];exact Ad ⟨zs,rfl,rfl,hP4,hA.succ O (by lia) e⟩
   .rintro c st' ⟨zs,rfl,rfl,hP4,hA⟩
    exact⟨zs,_,rfl,rfl,by lia,by lia,hP4,hA⟩
   .rintro c st' ⟨zs,n',rfl,rfl,k1,k2,hP4,hA⟩
    exact Ad (q n' zs k1 k2 hP4 hA)
def Pz (O:Srt.Ord lt) (hc:Cmp prog w A E s lt kf κ0 it) {st:SortSt} {ys:Array Keyed} {lo n ok:Nat} {Q:Bool->SortSt->Prop} (hk:kindOf st=κ0) (hm:∀u∈ys.toList,u∈it.toList) (hok:ok<=n) (hs:lo+n<=ys.size) (hA:Asc lt kf ys lo ok)
  (q:∀xs,Pr ys lo xs->Asc lt kf xs lo n->Q true (setArr st xs)):wpS (model prog w) A E s (binarySort' lo n ok) Q (setArr st ys):=by
 have hm':∀{xs:Array Keyed},Pr ys lo xs->∀u∈xs.toList,u∈it.toList:=fun {xs} h u hu=>hm u ((Ek.mp h.perm).mem_iff.mp hu)
 have p0:Pr ys lo ys:=⟨Array.Perm.refl _,fun _ _=>rfl⟩
 rw[binarySort'_eq]
 refine Ac (Bg (Bh (I:=fun k c st'=>c=(none,())/\∃xs,st'=setArr st xs/\Pr ys lo xs/\Asc lt kf xs lo (min k n))
  (Q:=fun c st'=>c=(none,())/\∃xs,st'=setArr st xs/\Pr ys lo xs/\Asc lt kf xs lo n) ?_ ?_ ?_) ?_)
 .rintro k c st' hk1 hkn ⟨rfl,xs,rfl,hP,hA'⟩
  have hz:=hP.size;rw[show min k n=k by lia]at hA'
  dsimp only
  refine Ac (Bg (Bh (I:=fun x c st'=>st'=setArr st xs/\∃l r,c=(none,l,r)/\l<=r/\r<=k/\r-l<=k-x/\(∀i,i<l->lt (ky kf xs (lo+k)) (ky kf xs (lo+i))=false)/\(∀i,r<=i->i<k->lt (ky kf xs (lo+i)) (ky kf xs (lo+k))=false))
   (Q:=fun c st'=>st'=setArr st xs/\∃l r,c=(none,l,r)/\l<=k/\(∀i,i<l->lt (ky kf xs (lo+k)) (ky kf xs (lo+i))=false)/\(∀i,l<=i->i<k->lt (ky kf xs (lo+i)) (ky kf xs (lo+k))=false)) ?_ ?_ ?_) ?_)
  .rintro x c st' _ hx ⟨rfl,l,r,rfl,h1,h2,h3,h4,h5⟩
   dsimp only
   by_cases hge:l≥r
   .rw[Aa hge]
    have:l=r:=by lia
    subst this;exact Ad ⟨rfl,l,l,rfl,h2,h4,h5⟩
   .rw[Ab hge]
    refine Ac (CO hc hk (hm' hP) (by lia) (by lia) ?_)
    cases e:lt (ky kf xs (lo+k)) (ky kf xs (lo+(l+r) / 2)) with
    |true=>
     dsimp only;rw[Aa rfl]
     refine Ad ⟨rfl,l,(l+r) / 2,rfl,by lia,by lia,by lia,h4,fun i i1 i2=>?_⟩
     exact O.trans _ _ _ (O.asym _ _ e) (hA' _ _ i1 i2)
    |false=>
     dsimp only;rw[Ab (by simp)]
     refine Ad ⟨rfl,(l+r) / 2+1,r,rfl,by lia,by lia,by lia,fun i i1=>?_,h5⟩
     exact O.trans _ _ _ (hA' i ((l+r) / 2) (by lia) (by lia)) e
  .rintro c st' ⟨rfl,l,r,rfl,h1,h2,h3,h4,h5⟩
   have:l=r:=by lia
   subst this;exact⟨rfl,l,l,rfl,h2,h4,h5⟩
  .exact⟨rfl,0,k,rfl,by lia,by lia,by lia,fun i hi=>by lia,fun i i1 i2=>by lia⟩
  .rintro c st' ⟨rfl,l,r,rfl,hl,h4,h5⟩
   dsimp only;rw[moveDown'_eq]
   refine Ac (Ce (Ad ⟨rfl,bubble xs (lo+k) (lo+k-(lo+l)),rfl,?_,?_⟩))
   .refine⟨(bubble_perm _ _ _).trans hP.perm,fun i hi=>?_⟩
    rw[getElem?_bubble (by lia) (lo+k-(lo+l)) (by lia) i,Ab (by lia),Ab (by lia)]
    exact hP.pre i hi
   .rw[show min (k+1) n=k+1 by lia]
    have kb:∀i,i<k+1->ky kf (bubble xs (lo+k) (lo+k-(lo+l))) (lo+i)=if i=l then ky kf xs (lo+k) else if l<i then ky kf xs (lo+(i-1)) else ky kf xs (lo+i):=fun i hi=>by
     have e:=getElem?_bubble (xs:=xs) (src:=lo+k) (by lia) (lo+k-(lo+l)) (by lia) (lo+i)
     rw[show lo+k-(lo+k-(lo+l))=lo+l by lia]at e
     by_cases ei:i=l
     .rw[Aa (by lia)]at e
      rw[Aa ei];exact EA e
     .rw[Ab (by lia)]at e
      rw[Ab ei]
      by_cases li:l<i
      .rw[Aa (by lia),show lo+i-1=lo+(i-1) by lia]at e
       rw[Aa li];exact EA e
      .rw[Ab (by lia)]at e
       rw[Ab li];exact EA e
    intro i j hij hj;rw[kb i (by lia),kb j hj]
    by_cases ei:i=l
    .rw[Aa ei]
     by_cases ej:j=l
     .rw[Aa ej];exact Srt.irr O _
     .rw[Ab ej,Aa (by lia)];exact h5 _ (by lia) (by lia)
    .rw[Ab ei]
     by_cases ej:j=l
     .rw[Aa ej,Ab (by lia)];exact h4 i (by lia)
     .rw[Ab ej]
      by_cases li:l<i
      .rw[Aa li,Aa (by lia)];exact hA' _ _ (by lia) (by lia)
      .rw[Ab li]
       by_cases lj:l<j
       .rw[Aa lj];exact hA' _ _ (by lia) (by lia)
       .rw[Ab lj];exact hA' _ _ hij (by lia)
 .rintro c st' ⟨hc',xs,rfl,hP,hA'⟩
  refine⟨hc',xs,rfl,hP,?_⟩
  rwa [show min (max (max ok 1) n) n=n by lia]at hA'
 .refine⟨rfl,ys,rfl,p0,fun i j hij hj=>?_⟩
  by_cases h1:ok=0
  .have:i=j:=by lia
   subst this;exact Srt.irr O _
  .exact hA i j hij (by lia)
 .rintro c st' ⟨rfl,xs,rfl,hP,hA'⟩
  exact Ad (q xs hP hA')
end
section
variable {prog:Program} {w:World} {A:Around} {E:VP} {s:Shared} {κt:Type} {lt:κt->κt->Bool} {kf:Keyed->κt} {κ0:SortKind} {it:Array Keyed}
theorem Pend.congr:∀{Ls:List (List Keyed)} {ps ps':List (Nat×Nat×Nat)} {off:Nat},ps.map (fun p=>(p.1,p.2.1))=ps'.map (fun p=>(p.1,p.2.1))->Pend lt kf off Ls ps->Pend lt kf off Ls ps'
 | [],[],[],_,_,h=>h
 |_::_,p::ps,p'::ps',off,e,h=>by
  rw[Ak,Ak]at e;obtain⟨e1,e2⟩:=List.cons.inj e;obtain⟨f1,f2⟩:=Prod.mk.inj e1;obtain⟨h1,h2,h3,h4,h5⟩:=h;exact⟨f1 ▸ h1,f2 ▸ h2,h3,h4,Pend.congr e2 h5⟩
 |_,[],_::_,_,e,_=>by simp at e
 |_,_::_,[],_,e,_=>by simp at e
 | [],_::_,_::_,_,_,h=>h.elim
 |_::_,[],[],_,_,h=>h.elim
theorem Pend.snoc:∀{Ls:List (List Keyed)} {ps:List (Nat×Nat×Nat)} {off:Nat} {U:List Keyed} (pw:Nat),Pend lt kf off Ls ps->1<=U.length->Sd lt kf U->Pend lt kf off (Ls++[U]) (ps++[(off+Ls.flatten.length,U.length,pw)])
 | [],[],off,U,pw,_,h1,h2=>⟨by simp,rfl,h1,h2,True.intro⟩
 |L::Ls,p::ps,off,U,pw,h,h1,h2=>by
  obtain⟨a,b,c,d,e⟩:=h
  refine⟨a,b,c,d,?_⟩
  have:=Pend.snoc pw e h1 h2;rw[B3,An,<-Nat.add_assoc];exact this
 | [],_::_,_,_,_,h,_,_=>h.elim
 |_::_,[],_,_,_,h,_,_=>h.elim
def P0 (ps:Array (Nat×Nat×Nat)) (i pw:Nat):((ps.modify i fun x=>match x with|(st,len,_)=>(st,len,pw)).toList).map (fun p=>(p.1,p.2.1))=ps.toList.map (fun p=>(p.1,p.2.1)):=by
 rw[Array.toList_modify]
 apply List.ext_getElem?
 intro j;rw[Bl,Bl,List.getElem?_modify]
 cases e:ps.toList[j]? with
 |none=>rfl
 |some x=>
  by_cases h:i=j
  .simp[h]
  .simp[h]
def Pr.lists {ys xs:Array Keyed} {lo n:Nat} {F R:List Keyed} (h:Pr ys lo xs) (hA:Asc lt kf xs lo n) (e:ys.toList=F++R) (hF:F.length=lo) (hn:lo+n<=ys.size):
  ∃U V,xs.toList=F++(U++V)/\(U++V).Perm R/\U.length=n/\Sd lt kf U:=by
 have hz:=h.size;have ht:xs.toList.take lo=F:=by
  apply List.ext_getElem?
  intro i
  by_cases hi:i<lo
  .rw[Bv hi,Ck,h.pre i hi,<-Ck,e,A8 (by lia)]
  .rw[Ea (by rw[A5];lia),Ea (by lia)]
 refine⟨(xs.toList.drop lo).take n,(xs.toList.drop lo).drop n,?_,?_,?_,?_⟩
 .rw[Bx,<-ht,Bx]
 .rw[Bx]
  have:=Ek.mp h.perm;rw[e,<-Bx lo xs.toList,ht]at this;exact (List.perm_append_left_iff F).mp this
 .rw[A5,Cc,Ar];lia
 .refine Fc.mpr fun i j hi hj hij=>?_
  have hl:((xs.toList.drop lo).take n).length=n:=by rw[A5,Cc,Ar];lia
  rw[hl]at hi hj;have g:∀k (hk:k<((xs.toList.drop lo).take n).length),kf (((xs.toList.drop lo).take n)[k])=ky kf xs (lo+k):=fun k hk=>by
   unfold ky;rw[List.getElem_take,List.getElem_drop,Array.getElem_toList,Ej,Array.getElem?_eq_getElem (by rw[hl]at hk;lia)];rfl
  unfold le;rw[g,g];exact hA i j (by lia) hj
def P1 {Ls:List (List Keyed)}:∀{ps:List (Nat×Nat×Nat)} {off:Nat},Pend lt kf off Ls ps->Ls.length<=Ls.flatten.length:=by
 induction Ls with
 |nil=>intro _ _ _;exact Nat.le_refl _
 |cons L Ls ih=>
  intro ps off h;cases ps with
  |nil=>exact h.elim
  |cons p ps=>
   obtain⟨_,_,h3,_,h5⟩:=h;have:=ih h5;rw[Ay,B3,An];lia
def wpS_sort (O:Srt.Ord lt) (hc:Cmp prog w A E s lt kf κ0 it) {Q:Unit->SortSt->Prop} {g:Nat}
  (q:∀st',failedOf st'=none->(arrOf st').toList.Perm it.toList->Sd lt kf (arrOf st').toList->Q () st'):wpS (model prog w) A E s sortRuns' Q (SortSt.mk' κ0 it #[] g none):=by
 rw[sortRuns'_eq]
 refine Ac (Cf ?_)
 dsimp only;rw[show (arrOf (SortSt.mk' κ0 it #[] g none)).size=it.size from rfl]
 have mem:∀{st:SortSt},(arrOf st).toList.Perm it.toList->∀u∈(arrOf st).toList,u∈it.toList:=fun {st} h u hu=>h.mem_iff.mp hu
 refine Ac (Bg (Bh (I:=fun x c st'=> ∃Ls rest lo,c=(none,lo)/\Ok lt kf κ0 st' Ls rest/\Ls.flatten.length=lo/\(arrOf st').toList.Perm it.toList/\x<=lo)
  (Q:=fun c st'=> ∃Ls lo,c=(none,lo)/\Ok lt kf κ0 st' Ls []/\(arrOf st').toList.Perm it.toList) ?step ?fin ?init) ?post)
 case init=>exact⟨[],it.toList,0,rfl,⟨rfl,rfl,rfl,True.intro⟩,rfl,List.Perm.refl _,Nat.le_refl _⟩
 case fin=>
  rintro c st' ⟨Ls,rest,lo,rfl,hO,hl,hp,hx⟩;have hlen:Ls.flatten.length+rest.length=it.size:=by
   have:=hp.length_eq;rw[hO.arr,An,Ar]at this;exact this
  have hr:rest=[]:=El (by lia)
  subst hr;exact⟨Ls,lo,rfl,hO,hp⟩
 case step=>
  rintro x c st' _ hx ⟨Ls,rest,lo,rfl,hO,hl,hp,hxl⟩;have hlen:Ls.flatten.length+rest.length=it.size:=by
   have:=hp.length_eq;rw[hO.arr,An,Ar]at this;exact this
  have hasz:(arrOf st').size=it.size:=by
   have:=hp.length_eq;rw[Ar,Ar]at this;exact this
  dsimp only
  by_cases hge:lo≥it.size
  .rw[Aa hge]
   have hr:rest=[]:=El (by lia)
   subst hr;exact Ad ⟨Ls,lo,rfl,hO,hp⟩
  rw[Ab hge];show wpS (model prog w) A E s _ _ (setArr st' (arrOf st'))
  refine Ac (Py O hc (st:=st') (ys:=arrOf st') (lo:=lo) (nr:=it.size-lo) hO.kind (mem hp) (by lia) (by lia) fun n xs n1 n2 hPr hA=>?_)
  dsimp only
  by_cases hmr:n<minRun' it.size it.size 0
  case' pos=>
   rw[Aa hmr]
   refine Ac (CN ?_)
   have hxs:=hPr.size
   refine Ac (Pz O hc (st:=st') (ys:=xs) (lo:=lo) hO.kind (fun u hu=>mem hp u ((Ek.mp hPr.perm).mem_iff.mp hu)) (by lia) (by lia) hA fun zs hPr2 hA2=>?_)
   rw[Ab (by simp)]
   have hPz:Pr (arrOf st') lo zs:=⟨hPr2.perm.trans hPr.perm,fun i hi=>(hPr2.pre i hi).trans (hPr.pre i hi)⟩
   have hm1:1<=min (it.size-lo) (minRun' it.size it.size 0):=by lia
   have hm2:min (it.size-lo) (minRun' it.size it.size 0)<=it.size-lo:=by lia
   generalize min (it.size-lo) (minRun' it.size it.size 0)=n' at hA2 hm1 hm2 ⊢
  case' neg=>
   rw[Ab hmr];have hPz:=hPr;have hA2:=hA;have hm1:=n1;have hm2:=n2;generalize xs=zs at hPz hA2 ⊢;generalize n=n' at hA2 hm1 hm2 ⊢
  all_goals
   obtain⟨U,V,e1,e2,e3,e4⟩:=hPz.lists hA2 hO.arr hl (by lia)
   have hO1:Ok lt kf κ0 (setArr st' zs) Ls (U++V):=⟨hO.kind,hO.fail,e1,hO.pend⟩;have hp1:(arrOf (setArr st' zs)).toList.Perm it.toList:=(Ek.mp hPz.perm).trans hp;generalize setArr st' zs=st1 at hO1 hp1 ⊢;have push:∀(st2:SortSt) (Ls2:List (List Keyed)),Ok lt kf κ0 st2 Ls2 (U++V)->Ls2.flatten.length=lo->(arrOf st2).toList.Perm it.toList->
     ∃Ls3 rest3 lo3,((none,lo+n'):Option Unit×Nat)=(none,lo3)/\Ok lt kf κ0 (setPending st2 ((pendingOf st2).push (lo,n',0))) Ls3 rest3/\Ls3.flatten.length=lo3/\(arrOf (setPending st2 ((pendingOf st2).push (lo,n',0)))).toList.Perm it.toList/\x+1<=lo3:=fun st2 Ls2 h1 h2 h3=>by
    refine⟨Ls2++[U],V,lo+n',rfl,⟨h1.kind,h1.fail,?_,?_⟩,?_,h3,by lia⟩
    .show (arrOf st2).toList=_
     rw[h1.arr,List.flatten_append,Aw];simp
    .show Pend lt kf 0 (Ls2++[U]) ((pendingOf st2).push (lo,n',0)).toList
     rw[Cd];have:=h1.pend.snoc 0 (by lia) e4
     rw[Br,h2,e3]at this;exact this
    .rw[List.flatten_append,An,h2]
     simp[e3]
   refine Ac (Cf ?_)
   split
   .refine Ac (Bg (Bh (I:=fun y c st2=>c=(none,())/\∃Ls2,Ok lt kf κ0 st2 Ls2 (U++V)/\Ls2.flatten.length=lo/\(arrOf st2).toList.Perm it.toList)
     (Q:=fun c st2=>c=(none,())/\∃Ls2,Ok lt kf κ0 st2 Ls2 (U++V)/\Ls2.flatten.length=lo/\(arrOf st2).toList.Perm it.toList) ?_ (fun _ _ z=>z) ⟨rfl,Ls,hO1,hl,hp1⟩) ?_)
    .rintro y c st2 _ _ ⟨rfl,Ls2,hO2,hl2,hp2⟩
     refine Ac (Cf ?_)
     have hsz2:Ls2.length=(pendingOf st2).size:=by rw[hO2.pend.len (off:=0),Ar]
     by_cases hs1:(pendingOf st2).size > 1
     .rw[Aa hs1]
      split
      .split
       .exact Ad ⟨rfl,Ls2,hO2,hl2,hp2⟩
       .refine Ac (Km O hc hO2 (by lia) (mem hp2) fun st3 Ls3 hO3 hl3 hp3=>?_)
        rw[Ab (by simp)]
        refine Ad ⟨rfl,Ls3,hO3,by rw[hp3.length_eq,hl2],?_⟩
        rw[hO3.arr];rw[hO2.arr]at hp2;exact (hp3.append_right _).trans hp2
      .exact Ad ⟨rfl,Ls2,hO2,hl2,hp2⟩
     .rw[Ab hs1]
      exact Ad ⟨rfl,Ls2,hO2,hl2,hp2⟩
    .rintro c st2 ⟨rfl,Ls2,hO2,hl2,hp2⟩
     dsimp only
     refine Ac (Ce (Ac (Ce (Ad ?_))))
     exact push (setPending st2 _) Ls2 ⟨hO2.kind,hO2.fail,hO2.arr,hO2.pend.congr (P0 _ _ _).symm⟩ hl2 hp2
   .exact Ac (Ce (Ad (push st1 Ls hO1 hl hp1)))
 case post=>
  rintro c st' ⟨Ls,lo,rfl,hO,hp⟩;dsimp only;have hl0:Ls.length<=it.size:=by
   have h1:=P1 hO.pend;have h2:=hp.length_eq;rw[hO.arr,Bo]at h2;have h3:it.toList.length=it.size:=Ar;lia
  refine Ac (Bg (Bh (I:=fun y c st2=>c=(none,())/\∃Ls2,Ok lt kf κ0 st2 Ls2 []/\Ls2.length<=it.size+1-y/\(arrOf st2).toList.Perm it.toList)
   (Q:=fun c st2=>c=(none,())/\∃Ls2,Ok lt kf κ0 st2 Ls2 []/\Ls2.length<=1/\(arrOf st2).toList.Perm it.toList) ?_ ?_ ⟨rfl,Ls,hO,by lia,hp⟩) ?_)
  .rintro y c st2 _ hy ⟨rfl,Ls2,hO2,hl2,hp2⟩
   refine Ac (Cf ?_)
   have hsz2:Ls2.length=(pendingOf st2).size:=by rw[hO2.pend.len (off:=0),Ar]
   by_cases hs1:(pendingOf st2).size<=1
   .rw[Aa hs1]
    exact Ad ⟨rfl,Ls2,hO2,by lia,hp2⟩
   rw[Ab hs1];have hi:∀b:Bool,(if b=true then (pendingOf st2).size-2-1 else (pendingOf st2).size-2)+1<Ls2.length:=fun b=>by
    cases b
    .rw[Ab (by simp)];lia
    .rw[Aa rfl];lia
   refine Ac (Km O hc hO2 (hi _) (mem hp2) fun st3 Ls3 hO3 hl3 hp3=>?_)
   rw[Ab (by simp)]
   refine Ad ⟨rfl,Ls3,hO3,by lia,?_⟩
   rw[hO3.arr];rw[hO2.arr]at hp2;exact (hp3.append_right _).trans hp2
  .rintro c st2 ⟨rfl,Ls2,hO2,hl2,hp2⟩
   exact⟨rfl,Ls2,hO2,by lia,hp2⟩
  .rintro c st2 ⟨rfl,Ls2,hO2,hl2,hp2⟩
   dsimp only
   refine Ad (q st2 hO2.fail hp2 ?_)
   rw[hO2.arr,Bo];cases Ls2 with
   |nil=>exact List.Pairwise.nil
   |cons L Ls2=>
    cases Ls2 with
    |cons _ _=>simp at hl2
    |nil=>
     have h2:=hO2.pend;cases e:(pendingOf st2).toList with
     |nil=>rw[e]at h2;exact h2.elim
     |cons p ps=>
      rw[e]at h2;simpa using h2.2.2.2.1
end
end Ts
namespace L2
open PySem PySem.Spec PySem.W PyProof.Rows
def P2 {α β:Type} {g:α->β} {l m:List β} (h:l.Perm m):∀xs:List α,m=xs.map g->∃ys:List α,ys.Perm xs/\l=ys.map g:=by
 induction h with
 |nil=>
  intro xs e;cases xs with
  |nil=>exact⟨[],List.Perm.refl _,rfl⟩
  |cons _ _=>simp at e
 |cons a _ ih=>
  intro xs e;cases xs with
  |nil=>simp at e
  |cons x xs=>
   rw[Ak]at e;obtain⟨e1,e2⟩:=List.cons.inj e;obtain⟨ys,p,q⟩:=ih xs e2;exact⟨x::ys,p.cons x,by rw[Ak,e1,q]⟩
 |swap a b l=>
  intro xs e;cases xs with
  |nil=>simp at e
  |cons x xs=>
   cases xs with
   |nil=>simp at e
   |cons y xs=>
    rw[Ak,Ak]at e;obtain⟨e1,e2⟩:=List.cons.inj e;obtain⟨e3,e4⟩:=List.cons.inj e2;exact⟨y::x::xs,List.Perm.swap _ _ _,by rw[Ak,Ak,e1,e3,e4]⟩
 |trans _ _ ih1 ih2=>
  intro xs e;obtain⟨ys,p,q⟩:=ih2 xs e;obtain⟨zs,p',q'⟩:=ih1 ys q;exact⟨zs,p'.trans p,q'⟩
section
variable {prog:Program} {w:World} {A:Around} {E:VP} {s:Shared}
open Classical in
def HM {κt:Type} (vs:List Value) (f:Nat->κt) (p:Keyed):κt:=if h:∃i,i<vs.length/\vs.getD i Value.none=p.1 then f h.choose else f 0
def Gy {κt:Type} {vs:List Value} {f:Nat->κt} (hf:∀i j,i<vs.length->j<vs.length->vs.getD i Value.none=vs.getD j Value.none->f i=f j) {i:Nat} (hi:i<vs.length) {p:Keyed} (e:vs.getD i Value.none=p.1):HM vs f p=f i:=by
 have h:∃i,i<vs.length/\vs.getD i Value.none=p.1:=⟨i,hi,e⟩;unfold HM;rw[dif_pos h];have:=h.choose_spec;exact hf _ _ this.1 hi (this.2.trans e.symm)
def P4 {vs:List Value} {κt:Type} {lt:κt->κt->Bool} (O:Srt.Ord lt) (f:Nat->κt) (κ0:SortKind) (hf:∀i j,i<vs.length->j<vs.length->vs.getD i Value.none=vs.getD j Value.none->f i=f j)
  (hask:∀(i j:Nat) (C:Bool->Shared->Prop),i<vs.length->j<vs.length->C (lt (f i) (f j)) s->kas_ask prog w A κ0 vs i j C s) {Q:SortSt->Prop}
  (q:∀(p:Array Nat) (st':SortSt),Srt.Pm vs.length p->Srt.Up lt f p vs.length->arrOf st'=p.map (kas_item (vs.toArray.zip vs.toArray))->failedOf st'=none->Q st'):
  wpAny (model prog w) A ((sortRuns').run (SortSt.mk' κ0 (vs.toArray.zip vs.toArray) #[] 7 none)) (fun r s'=>s'=s/\Q r.2) E s:=by
 have hlen:(vs.toArray.zip vs.toArray).size=vs.length:=by simp
 have hit:=kas_range (vs.toArray.zip vs.toArray);rw[hlen]at hit;have hitem:∀i,i<vs.length->kas_item (vs.toArray.zip vs.toArray) i=(vs.getD i Value.none,vs.getD i Value.none):=fun i hi=>kas_item_eq vs i
 have hcmp:Ts.Cmp prog w A E s lt (HM vs f) κ0 (vs.toArray.zip vs.toArray):=by
  intro x y st Q' hx hy hk hq;rw[<-hit]at hx hy;rw[Array.toList_map]at hx hy;obtain⟨i,hi,rfl⟩:=C7.mp hx;obtain⟨j,hj,rfl⟩:=C7.mp hy;have hi':i<vs.length:=B7.mp (by simpa using hi)
  have hj':j<vs.length:=B7.mp (by simpa using hj)
  rw[hitem i hi',hitem j hj']at hq ⊢;rw[Gy hf hi' rfl,Gy hf hj' rfl]at hq;rw[lt'_eq]
  refine Ac (Cf ?_)
  rw[hk]
  refine Ac (wpS_lift (wpAny_attempt (A7 (hask i j (fun c s'=>s'=s/\c=lt (f i) (f j)) hi' hj' ⟨rfl,rfl⟩) (fun c s' hc=>?_) fun _ _ z=>z.elim)))
  obtain⟨rfl,rfl⟩:=hc;exact⟨rfl,Ad hq⟩
 refine A7 (Ts.wpS_sort (Q:=fun _ st'=>Q st') O hcmp (g:=7) fun st' hfail hperm hsd=>?_) (fun r s' hr=>hr) fun _ _ z=>z
 rw[<-hit,Array.toList_map]at hperm;obtain⟨P,hP,hPe⟩:=P2 hperm _ rfl;have hPr:P.Perm (List.range vs.length):=by simpa using hP
 have hPl:P.length=vs.length:=by rw[hPr.length_eq,List.length_range]
 have harr:arrOf st'=(List.toArray P).map (kas_item (vs.toArray.zip vs.toArray)):=by
  apply Cr
  rw[hPe,Array.toList_map]
 refine q (List.toArray P) st' ⟨by simpa using hPr⟩ (fun i j hij hj=>?_) harr hfail
 have hi:i<P.length:=by lia
 have hj':j<P.length:=by lia
 unfold Srt.ky;have gi:(List.toArray P).getD i 0=P[i]:=by simp[Array.getD,hi]
 have gj:(List.toArray P).getD j 0=P[j]:=by simp[Array.getD,hj']
 rw[gi,gj];have bi:P[i]<vs.length:=B7.mp (hPr.mem_iff.mp (List.getElem_mem hi));have bj:P[j]<vs.length:=B7.mp (hPr.mem_iff.mp (List.getElem_mem hj'));have:=hsd.at O (i:=i) (j:=j) (u:=kas_item (vs.toArray.zip vs.toArray) P[i]) (v:=kas_item (vs.toArray.zip vs.toArray) P[j]) hij (by rw[hPe,Bl,z0 hi];rfl) (by rw[hPe,Bl,z0 hj'];rfl)
 unfold Ts.le at this;rw[hitem _ bi,hitem _ bj,Gy hf bj rfl,Gy hf bi rfl]at this;exact this
def P5 {a:Addr} {vs:List Value} {n:Nat} {P:PySem.Fin->Shared->Prop} {κt:Type} {lt:κt->κt->Bool} (O:Srt.Ord lt) (f:Nat->κt) (κ0:SortKind) (ho:s.heap.get? a=some (seqObj "list" vs.toArray n)) (hsz0:vs.length<=100000) (hf:∀i j,i<vs.length->j<vs.length->vs.getD i Value.none=vs.getD j Value.none->f i=f j)
  (hkind:∀(h6:Heap) (Q:SortKind->Shared->Prop),(∀b o,b≠a->s.heap.get? b=some o->h6.get? b=some o)->2<=vs.length->Q κ0 {s with heap:=h6}->wpAny (model prog w) A (keyKind' vs.toArray) Q (fun _ _=>False) {s with heap:=h6})
  (hask:∀(h6:Heap) (i j:Nat) (C:Bool->Shared->Prop),(∀b o,b≠a->s.heap.get? b=some o->h6.get? b=some o)->i<vs.length->j<vs.length->C (lt (f i) (f j)) {s with heap:=h6}->kas_ask prog w A κ0 vs i j C {s with heap:=h6})
  (h:∀p:Array Nat,Srt.Pm vs.length p->Srt.Up lt f p vs.length->P (.done (.ret .none)) {s with heap:=sortedHeap s.heap a vs (List.toArray (p.toList.map fun i=>vs.getD i Value.none))}):
  wpAny (model prog w) A (Builtin.«list.sort» ⟨[.ref a],[]⟩) P E s:=by
 have ha:a<s.heap.objs.size:=Aj ho;have z1:=Heap.SameBut.update s.heap a (Obj.mapSeq fun _=>(#[]:Array Value))
 obtain⟨e1,ho1⟩:∃e1,(s.heap.update a (Obj.mapSeq fun _=>(#[]:Array Value))).get? a=some (seqObj "list" #[] e1):=⟨_,get?_update_seq ho fun _=> #[]⟩
 have ho6:(((s.heap.update a (Obj.mapSeq fun _=>(#[]:Array Value))).push (seqObj "tuple" vs.toArray 0)).push (seqObj "list" #[] 0)).get? a=some (seqObj "list" #[] e1):=
  Ao _ (Ao _ ho1)
 have k6:∀b o,b≠a->s.heap.get? b=some o->(((s.heap.update a (Obj.mapSeq fun _=>(#[]:Array Value))).push (seqObj "tuple" vs.toArray 0)).push (seqObj "list" #[] 0)).get? b=some o:=fun b o hb e=>
  Ao _ (Ao _ ((z1.2 b hb).trans e))
 have fin:∀(st':SortSt) (p:Array Nat),Srt.Pm vs.length p->Srt.Up lt f p vs.length->(arrOf st').map (·.2)=List.toArray (p.toList.map fun i=>vs.getD i Value.none)->failedOf st'=none->
   wpAny (model prog w) A (do
    let touched:=(<-seqEpoch a) !=e1
    Builtin.List.listUpdate (.ref a) fun _=>(arrOf st').map (·.2)
    if let some e:=failedOf st' then rule "list.sort.comparison-raised";throw e
    if touched then rule "list.sort.modified";raiseError "ValueError" "list modified during sort"
    ret .none) P E {s with heap:=(((s.heap.update a (Obj.mapSeq fun _=>(#[]:Array Value))).push (seqObj "tuple" vs.toArray 0)).push (seqObj "list" #[] 0))}:=fun st' p Pp Up hout hf=>by
  have hsz:(List.toArray (p.toList.map fun i=>vs.getD i Value.none)).size=vs.length:=by rw[Al,Ap,Ar,Pp.size]
  rw[hout]
  refine Ae (seqEpoch_at ho6 rfl ?_)
  refine Ae (listUpdate_at ho6 rfl ?_ (B9 _) (Nat.le_trans (Nat.le_of_eq hsz) (by rw[Ci];lia)))
  rw[hf];simp only[bne_self_eq_false,Dq,C2];exact Ai (h p Pp Up)
 rw[list_sort_plain]
 refine Ae (listItems_at ho rfl ?_)
 refine Ae (listUpdate_at ho rfl ?_ (by rw[Al,Ci];lia) (B9 _))
 refine Ae (seqEpoch_at ho1 rfl ?_)
 refine Ae (wpAny_newTuple ?_ (by show vs.length<=_;rw[Ci];lia))
 refine Ae (wpAny_newList ?_ (B9 _))
 refine Cy ?_
 show wpAny (model prog w) A _ P E {s with heap:=((s.heap.update a (Obj.mapSeq fun _=>(#[]:Array Value))).push (seqObj "tuple" vs.toArray 0)).push (seqObj "list" #[] 0)}
 dsimp only
 by_cases h2:vs.length<2
 .have h2':vs.toArray.size<2:=by simpa using h2
  rw[Aa h2',Aa h2']
  refine Ae (Ai ?_)
  rw[StateT.run_pure]
  refine Ae (Ai ?_)
  dsimp only
  refine fin (SortSt.mk' general' (vs.toArray.zip vs.toArray) #[] 7 none) (List.toArray (List.range vs.length)) ⟨by simp⟩ (fun i j hij hj=>?_) ?_ rfl
  .have:i=j:=by lia
   subst this;exact Srt.irr O _
  .have e:=kas_range (vs.toArray.zip vs.toArray)
   rw[show (vs.toArray.zip vs.toArray).size=vs.length by simp]at e
   exact kat_snds (ks:=vs) rfl e.symm
 .have h2': ¬vs.toArray.size<2:=by simpa using h2
  rw[Ab h2',Ab h2']
  refine Ae (A7 (hkind _ (fun κ s'=>κ=κ0/\s'={s with heap:=((s.heap.update a (Obj.mapSeq fun _=>(#[]:Array Value))).push (seqObj "tuple" vs.toArray 0)).push (seqObj "list" #[] 0)}) k6 (by lia) ⟨rfl,rfl⟩) (fun κ s' hk=>?_) fun _ _ x=>x.elim)
  obtain⟨rfl,rfl⟩:=hk
  refine Ae (A7 (P4 (s:={s with heap:=((s.heap.update a (Obj.mapSeq fun _=>(#[]:Array Value))).push (seqObj "tuple" vs.toArray 0)).push (seqObj "list" #[] 0)})
   (Q:=fun st'=> ∃p:Array Nat,Srt.Pm vs.length p/\Srt.Up lt f p vs.length/\arrOf st'=p.map (kas_item (vs.toArray.zip vs.toArray))/\failedOf st'=none) O f _ hf (fun i j C hi hj hC=>hask _ i j C k6 hi hj hC) fun p st' a1 a2 a3 a4=>⟨p,a1,a2,a3,a4⟩) ?_ fun _ _ e=>e)
  .rintro⟨⟨⟩,st'⟩ s' ⟨rfl,p,Pp,Up,har,hfl⟩
   dsimp only;exact fin st' p Pp Up (kat_snds rfl har) hfl
def Kn {l:Addr} {vs:List Value} {Q:VP} {κt:Type} {lt:κt->κt->Bool} (O:Srt.Ord lt) (f:Nat->κt) (κ0:SortKind) (hl:s.heap.IsList l vs.toArray) (hsz0:vs.length<=100000) (hf:∀i j,i<vs.length->j<vs.length->vs.getD i Value.none=vs.getD j Value.none->f i=f j)
  (hkind:∀(h6:Heap) (Q:SortKind->Shared->Prop),(∀b o,s.heap.get? b=some o->h6.get? b=some o)->2<=vs.length->Q κ0 {s with heap:=h6}->wpAny (model prog w) A.in1.in1 (keyKind' vs.toArray) Q (fun _ _=>False) {s with heap:=h6})
  (hask:∀(h6:Heap) (i j:Nat) (C:Bool->Shared->Prop),(∀b o,s.heap.get? b=some o->h6.get? b=some o)->i<vs.length->j<vs.length->C (lt (f i) (f j)) {s with heap:=h6}->kas_ask prog w A.in1.in1 κ0 vs i j C {s with heap:=h6})
  (h:∀p:Array Nat,Srt.Pm vs.length p->Srt.Up lt f p vs.length->Q (.ref (s.heap.objs.size+1)) {s with heap:=sortedAll s.heap vs (List.toArray (p.toList.map fun i=>vs.getD i Value.none))}):
  wpAny (model prog w) A (call (.builtin "sorted") [.ref l]) Q E s:=by
 refine Calls.call_function_entry kind_sorted plain_sorted entry_sorted (args_sorted1 _) ?_
 unfold Builtin.«sorted»
 refine Ae (m:=checkCount "sorted" 1 1 _) (Ai ?_)
 refine Ae (collect_list hl ?_ (by rw[Ci];lia))
 refine Ae (wpAny_newList ?_ (by rw[Ci];lia))
 have hsz:((s.heap.push (seqObj "list" #[] 0)).update s.heap.objs.size (Obj.mapSeq (· ++vs.toArray))).objs.size=s.heap.objs.size+1:=by
  rw[Heap.size_update,size_push']
 have hoL:(((s.heap.push (seqObj "list" #[] 0)).update s.heap.objs.size (Obj.mapSeq (· ++vs.toArray))).push (seqObj "list" vs.toArray 0)).get? (s.heap.objs.size+1)=some (seqObj "list" vs.toArray 0):=by
  rw[<-hsz];exact Bn _ rfl
 have keep:∀b o,s.heap.get? b=some o->b≠s.heap.objs.size+1/\(((s.heap.push (seqObj "list" #[] 0)).update s.heap.objs.size (Obj.mapSeq (· ++vs.toArray))).push (seqObj "list" vs.toArray 0)).get? b=some o:=fun b o q=>by
  have hlt:b<s.heap.objs.size:=Aj q
  refine⟨Au (Nat.lt_succ_of_lt hlt),?_⟩
  rw[Heap.get?_push_ne _ _ _ (by rw[hsz];exact Au (Nat.lt_succ_of_lt hlt)),Heap.get?_update_ne _ _ _ _ (Au hlt),Heap.get?_push_ne _ _ _ (Au hlt)]
  exact q
 show wpAny _ _ _ _ _ {s with heap:=((s.heap.push (seqObj "list" #[] 0)).update s.heap.objs.size (Obj.mapSeq (· ++vs.toArray))).push (seqObj "list" vs.toArray 0)}
 rw[hsz]
 refine Ae (Cy (wpAny_call_entry slot_list_sort ⟨_,hoL,rfl⟩ entry_list_sort ?body (args_list_sort _)))
 case body=>
  refine P5 (s:={s with heap:=((s.heap.push (seqObj "list" #[] 0)).update s.heap.objs.size (Obj.mapSeq (· ++vs.toArray))).push (seqObj "list" vs.toArray 0)}) O f κ0 hoL hsz0 hf
   (fun h6 Q' k6 h2 q=>hkind h6 Q' (fun b o e=>k6 b o (keep b o e).1 (keep b o e).2) h2 q) (fun h6 i j C k6 hi hj hC=>hask h6 i j C (fun b o e=>k6 b o (keep b o e).1 (keep b o e).2) hi hj hC) fun p Pp Up=>⟨_,rfl,?_⟩
  exact Ai ⟨_,rfl,h p Pp Up⟩
end
noncomputable def y4:zw->zw->Bool
 |.inl a,.inl b=>decide (a<b)
 |.inr x,.inr y=>decide (x.cps.toList<y.cps.toList)
 |.inl _,.inr _=>true
 |.inr _,.inl _=>false
def P6 {x y:Str} (h1: ¬x.cps.toList<y.cps.toList) (h2: ¬y.cps.toList<x.cps.toList):x=y:=by
 have h:x.cps.toList=y.cps.toList:=List.le_antisymm (List.not_lt.mp h2) (List.not_lt.mp h1);cases x;cases y;simp only[Str.mk.injEq];exact Cr h
def HN:∀a b:zw,y4 a b=true->y4 b a=false
 |.inl a,.inl b,h=>by
  have:=Dk h;exact A6 (by lia)
 |.inr x,.inr y,h=>A6 (List.lt_asymm (Dk h))
 |.inl _,.inr _,_=>rfl
 |.inr _,.inl _,h=>by cases h
def HP:∀a b:zw,y4 a b=false->y4 b a=false->a=b
 |.inl a,.inl b,h1,h2=>by
  have:=Dl h1;have:=Dl h2;exact congrArg Sum.inl (by lia)
 |.inr x,.inr y,h1,h2=>congrArg Sum.inr (P6 (Dl h1) (Dl h2))
 |.inl _,.inr _,h,_=>by cases h
 |.inr _,.inl _,_,h=>by cases h
def P7:∀a b c:zw,y4 a b=true->y4 b c=true->y4 a c=true
 |.inl a,.inl b,.inl c,h1,h2=>by
  have:=Dk h1;have:=Dk h2;exact Bp (by lia)
 |.inr x,.inr y,.inr z,h1,h2=>Bp (List.lt_trans (Dk h1) (Dk h2))
 |.inl _,_,.inr _,_,_=>rfl
 |.inl _,.inr _,.inl _,_,h=>by cases h
 |.inr _,.inl _,_,h,_=>by cases h
 |.inr _,.inr _,.inl _,_,h=>by cases h
def P8 (a:zw):y4 a a=false:=by
 cases h:y4 a a with
 |false=>rfl
 |true=>rw[HN a a h]at h;cases h
noncomputable def lexK:List zw->List zw->Bool
 | [],[]=>false
 | [],_::_=>true
 |_::_,[]=>false
 |x::xs,y::ys=>if x=y then lexK xs ys else y4 x y
theorem HQ:∀a b:List zw,lexK a b=true->lexK b a=false
 | [],[],h=>by cases h
 | [],_::_,_=>rfl
 |_::_,[],h=>by cases h
 |x::xs,y::ys,h=>by
  unfold lexK at h ⊢
  by_cases e:x=y
  .rw[Aa e]at h;rw[Aa e.symm];exact HQ xs ys h
  .rw[Ab e]at h;rw[Ab (Av e)];exact HN _ _ h
theorem HR:∀a b c:List zw,lexK b a=false->lexK c b=false->lexK c a=false
 | [],[],_,_,h=>h
 | [],_::_,[],_,h2=>by cases h2
 | [],_::_,_::_,_,_=>rfl
 |_::_,[],_,h1,_=>by cases h1
 |_::_,_::_,[],_,h2=>by cases h2
 |x::xs,y::ys,z::zs,h1,h2=>by
  unfold lexK at h1 h2 ⊢
  by_cases e1:y=x
  .rw[Aa e1]at h1
   by_cases e2:z=y
   .rw[Aa e2]at h2;rw[Aa (e2.trans e1)];exact HR xs ys zs h1 h2
   .rw[Ab e2]at h2;rw[Ab (fun h=>e2 (h.trans e1.symm)),<-e1];exact h2
  .rw[Ab e1]at h1
   have lxy:y4 x y=true:=by
    cases h:y4 x y with
    |true=>rfl
    |false=>exact absurd (HP y x h1 h) e1
   by_cases e2:z=y
   .subst e2
    rw[Ab e1];exact h1
   .rw[Ab e2]at h2
    have lyz:y4 y z=true:=by
     cases h:y4 y z with
     |true=>rfl
     |false=>exact absurd (HP z y h2 h) e2
    have lxz:=P7 _ _ _ lxy lyz
    by_cases e3:z=x
    .subst e3;rw[P8]at lxz;cases lxz
    .rw[Ab e3];exact HN _ _ lxz
def ordK:Srt.Ord lexK:=⟨fun a b c=>HR a b c,HQ⟩
theorem Ko:∀a b:List zw,lexK a b=false->lexK b a=false->a=b
 | [],[],_,_=>rfl
 | [],_::_,h,_=>by cases h
 |_::_,[],_,h=>by cases h
 |x::xs,y::ys,h1,h2=>by
  unfold lexK at h1 h2
  by_cases e:x=y
  .rw[Aa e]at h1;rw[Aa e.symm]at h2;rw[e,Ko xs ys h1 h2]
  .rw[Ab e]at h1;rw[Ab (Av e)]at h2
   exact absurd (HP _ _ h1 h2) e
theorem Kp:∀{a b:List (List zw)},a.Perm b->a.Pairwise (fun x y=>lexK y x=false)->b.Pairwise (fun x y=>lexK y x=false)->a=b
 | [],b,p,_,_=>p.nil_eq
 |x::r,b,p,ha,hb=>by
  cases b with
  |nil=>exact absurd p.length_eq (by simp)
  |cons y t=>
   have hx:x∈y::t:=p.mem_iff.mp Ax;have hy:y∈x::r:=p.mem_iff.mpr Ax;have e:x=y:=by
    rcases Ag.mp hx with h|h
    .exact h
    .rcases Ag.mp hy with h' | h'
     .exact h'.symm
     .exact (Ko _ _ ((Ei.mp hb).1 x h) ((Ei.mp ha).1 y h')).symm ▸ rfl
   subst e;rw[Kp (List.Perm.cons_inv p) (Ei.mp ha).2 (Ei.mp hb).2]
section
variable {prog:Program} {w:World} {A:Around} {E:VP} {s:Shared}
noncomputable abbrev qc (r:List zw):List Bool:=r.map Sum.isLeft
theorem HS {fin b:Bool} {C:Bool->Shared->Prop} {s:Shared}:∀(ns ms:List zw) (us ws:List Value) (i:Nat),Vals (ns.map kV) us->Vals (ms.map kV) ws->qc ns=qc ms->fin=decide (ns.length<ms.length)->C (lexK ns ms) s->KatLex prog w A b fin C (us.zip ws) i s
 | [],[],us,ws,i,hu,hw,_,hf,h=>by
  rw[Bf]at hu;cases hu;subst hf;exact kat_nil h
 | [],_::_,_,_,_,_,_,e,_,_=>by simp[qc]at e
 |_::_,[],_,_,_,_,_,e,_,_=>by simp[qc]at e
 |n::ns,m::ms,us,ws,i,hu,hw,e,hf,h=>by
  rw[Ak]at hu hw;rw[qc,qc,Ak,Ak]at e;obtain⟨e1,e2⟩:=List.cons.inj e;cases hu with
  | @cons _ u _ us ru hu=>
   cases hw with
   | @cons _ v _ ws rv hw=>
    rw[List.zip_cons_cons];unfold lexK at h;cases n with
    |inl x=>
     cases m with
     |inr y=>cases e1
     |inl y=>
      obtain⟨t,rfl⟩:=ru;obtain⟨t',rfl⟩:=rv
      refine kat_cons (SeqAt.EqAt.int_int x t y t' prog w _ _ ?_)
      by_cases e:x=y
      .rw[Aa (congrArg Sum.inl e)]at h
       rw[show (x==y)=true by simpa using e]
       exact kat_yes (HS ns ms _ _ (i+1) hu hw e2 (by rw[hf];simp) h)
      .rw[Ab (fun z=>e (Sum.inl.inj z))]at h
       rw[show (x==y)=false by simpa using e]
       refine kat_no ?_
       cases (b && i==0) with
       |true=>exact oneLt_int h
       |false=>exact kat_one _ _ (lt_int h)
    |inr x=>
     cases m with
     |inl y=>cases e1
     |inr y=>
      obtain⟨t,rfl⟩:=ru;obtain⟨t',rfl⟩:=rv
      refine kat_cons (SeqAt.EqAt.str_str x t y t' prog w _ _ ?_)
      by_cases e:x=y
      .rw[Aa (congrArg Sum.inr e)]at h
       rw[show (x==y)=true by simpa using e]
       exact kat_yes (HS ns ms _ _ (i+1) hu hw e2 (by rw[hf];simp) h)
      .rw[Ab (fun z=>e (Sum.inr.inj z))]at h
       rw[show (x==y)=false by simpa using e]
       refine kat_no ?_
       cases (b && i==0) with
       |true=>exact kas_lt_str (t:=t) (u:=t') h
       |false=>exact kat_one _ _ (lt_str h)
end
def IsK (K:FG) (H:Hp) (x:V) (r:List zw):Prop:=∃t,x=.ref t/\SqT K H t (r.map kV)
section
variable {X:Cx}
def HU {pins:AL} {s:Shared} {σ:St} {H:Hp} (I:Inv X pins σ H s) {x:V} {v:Value} {r:List zw} (rv:RelV x v) (h:IsK X.K H x r):
  ∃t o its n,v=.ref t/\s.heap.get? t=some o/\o.cls=.type "tuple" /\o.data=.seq (List.toArray its) n/\Vals (r.map kV) its:=by
 obtain⟨t,rfl,ht⟩:=h;cases rv;obtain⟨its,rv,⟨o,e,hc,n,hd⟩,_⟩:=I.tuple ht;exact⟨t,o,its,n,rfl,e,hc,hd,rv⟩
theorem Kq {pins:AL} {s:Shared} {σ:St} {H:Hp} {h6:Heap} (I:Inv X pins σ H s) (k6:∀b o,s.heap.get? b=some o->h6.get? b=some o):∀{ys:List V} {its:List Value} {rows:List (List zw)},Vals ys its->Paired (IsK X.K H) ys rows->
  (∀r∈rows,∃i r',r=Sum.inl i::r')->∃fs,KatTups h6 its fs/\fs.length=its.length/\∀v∈fs,∃n t,v=Value.int n t
 |_,_,_,.nil,.nil,_=>⟨[],KatTups.nil,rfl,fun _ h=>(nomatch h)⟩
 |_,_,r::_,.cons rv t,.cons p q,hne=>by
  obtain⟨fs,h1,h2,h3⟩:=Kq I k6 t q fun r hr=>hne r (A1 _ hr)
  obtain⟨a,o,xs,n,rfl,e,hc,hd,hi⟩:=HU I rv p;obtain⟨i,r',rfl⟩:=hne r Ax;rw[Ak]at hi;cases hi with
  | @cons _ f _ fr rf hi=>
   obtain⟨tk,rfl⟩:=rf
   refine⟨.int i tk::fs,KatTups.cons (k6 _ _ e) hc hd rfl h1,by simp[h2],fun v hv=>?_⟩
   rcases Ag.mp hv with rfl|hv
   .exact⟨i,tk,rfl⟩
   .exact h3 v hv
theorem Kr:∀{r r':List zw},r.map kV=r'.map kV->r=r'
 | [],[],_=>rfl
 | [],_::_,h=>by simp at h
 |_::_,[],h=>by simp at h
 |a::r,b::r',h=>by
  rw[Ak,Ak]at h;obtain⟨h1,h2⟩:=List.cons.inj h;have:a=b:=by
   cases a<;>cases b<;>simp[kV]at h1<;>rw[h1]
  rw[this,Kr h2]
def P9:CallR X (.builtin "sorted") (fun xs H Q=> ∃(p:Addr) (ys:List V) (rows:List (List zw)) (R:V->List zw->Prop) (sh:List Bool),xs=[.ref p]/\SqL X.K H p ys/\(∀x r,R x r->IsK X.K H x r)/\Paired R ys rows/\rows.length<=100000/\(∀r∈rows,qc r=true::sh)/\
  ∀(l:Addr) (ys':List V) (rows':List (List zw)),H l=none->rows'.Perm rows->rows'.Pairwise (fun a b=>lexK b a=false)->Paired R ys' rows'->Q (.ref l) (zh H l (.lst ys'))):=by
 intro pins s σ H xs us Q I r h;obtain⟨p,ys,rows,R,sh,rfl,hq,hR,pr,hbig,hsh,h⟩:=h;obtain⟨u,rfl,rx⟩:=AH r;cases rx;obtain⟨its,rv,pl,hz⟩:=I.list hq;have l1:=rv.length;have l2:=Paired.length pr;have hne:∀r∈rows,∃i r',r=Sum.inl i::r':=fun r hr=>by
  have:=hsh r hr;cases r with
  |nil=>simp[qc]at this
  |cons a r'=>
   cases a with
   |inl i=>exact⟨i,r',rfl⟩
   |inr x=>simp[qc]at this
 have one:∀i,i<ys.length->∃v a,its[i]? =some v/\rows[i]? =some a/\RelV (ys.getD i .non) v/\R (ys.getD i .non) a:=fun i hi=>by
  obtain⟨v,ev,rvi⟩:=rv.get (i:=i) (x:=ys[i]) (by simp[hi])
  obtain⟨a,ea,ra⟩:=Paired.getL pr (i:=i) (a:=ys[i]) (by simp[hi])
  have e:ys.getD i .non=ys[i]:=by simp[hi]
  exact⟨v,a,ev,ea,by rw[e];exact rvi,by rw[e];exact ra⟩
 refine Kn ordK (fun i=>rows.getD i []) (tuples' true) pl.isList (by lia) (fun i j hi hj e=>?_) (fun h6 Q' k6 h2 q=>?_) (fun h6 i j C k6 hi hj hC=>?_) fun P Pp Up=>?_
 .obtain⟨v,a,ev,ea,rvi,ra⟩:=one i (by lia)
  obtain⟨u,b,eu,eb,rvj,rb⟩:=one j (by lia)
  rw[Bt,Bt,ev,eu]at e;have e:v=u:=e;subst e;show rows.getD i []=rows.getD j [];rw[Bt,Bt,ea,eb];obtain⟨t,ex,ht⟩:=hR _ _ ra;obtain⟨t',ex',ht'⟩:=hR _ _ rb;rw[ex]at rvi;rw[ex']at rvj;cases rvi;cases rvj;exact Kr (I.tuple_inj ht ht')
 .obtain⟨fs,t1,t2,t3⟩:=Kq I k6 rv (Paired.imp' (fun a b q=>hR a b q) pr) hne
  refine kat_kind (s:={s with heap:=h6}) (fs:=fs) (T:= .type "int") t1 (by lia) (fun v hv=>?_) (by decide) ?_
  .obtain⟨n,t,rfl⟩:=t3 v hv
   exact fun A Q E s _ q=>Ai q
  .exact q
 .unfold kas_ask
  obtain⟨v,a,ev,ea,rvi,ra⟩:=one i (by lia)
  obtain⟨u,b,eu,eb,rvj,rb⟩:=one j (by lia)
  have e1:its.getD i Value.none=v:=by rw[Bt,ev];rfl
  have e2:its.getD j Value.none=u:=by rw[Bt,eu];rfl
  have e3:rows.getD i []=a:=by rw[Bt,ea];rfl
  have e4:rows.getD j []=b:=by rw[Bt,eb];rfl
  rw[e1,e2];rw[e3,e4]at hC;obtain⟨x,ox,xs,n,rfl,ex,_,dx,ix⟩:=HU I rvi (hR _ _ ra);obtain⟨y,oy,zs,k,rfl,ey,_,dy,iy⟩:=HU I rvj (hR _ _ rb)
  refine kat_lt (s:={s with heap:=h6}) (k6 _ _ ex) dx (k6 _ _ ey) dy (HS a b _ _ 0 ix iy ((hsh a (Am ea)).trans (hsh b (Am eb)).symm) ?_ hC)
  have q1:=ix.length;have q2:=iy.length;rw[Ap]at q1 q2;rw[Al,Al,q1,q2]
 .obtain⟨e,he⟩:=sortedAll_at s.heap its (List.toArray (P.toList.map fun i=>its.getD i Value.none))
  have mem:∀i∈P.toList,i<ys.length:=fun i hi=>by
   have:=B7.mp (Pp.perm.mem_iff.mp hi);lia
  have hv:Vals (P.toList.map fun i=>ys.getD i .non) (P.toList.map fun i=>its.getD i Value.none):=Paired.mapL fun i hi=>by
   obtain⟨v,a,ev,ea,rvi,ra⟩:=one i (mem i hi);rw[Bt (l:=its),ev];exact rvi
  have hr:Paired R (P.toList.map fun i=>ys.getD i .non) (P.toList.map fun i=>rows.getD i []):=Paired.mapL fun i hi=>by
   obtain⟨v,a,ev,ea,rvi,ra⟩:=one i (mem i hi);rw[Bt (l:=rows),ea];exact ra
  have hpl:P.toList.length=its.length:=by rw[Ar,Pp.size]
  refine⟨.ref (s.heap.objs.size+1),_,I.laid (t':=s.toks) (o:= .lst (P.toList.map fun i=>ys.getD i .non)) (fun b o q=>sortedAll_old q) (De _) ?_,rfl,h _ _ _ (I.hok.fresh (De _)) ?_ ?_ hr⟩
  .exact⟨by rw[Ap];lia,_,e,hv,he⟩
  .have q:=Pp.perm.map fun i=>rows.getD i []
   have e:its.length=rows.length:=by lia
   rw[e,JS]at q;exact q
  .rw[Fc]
   intro i j hi hj hij;have hj':j<its.length:=by rw[Ap]at hj;lia
   have q:=Up i j (Cp hij) hj';have gi:P.getD i 0=P.toList[i]'(by rw[hpl];lia):=by
    have:i<P.size:=by rw[Pp.size];lia
    simp[Array.getD,this]
   have gj:P.getD j 0=P.toList[j]'(by rw[hpl];lia):=by
    have:j<P.size:=by rw[Pp.size];lia
    simp[Array.getD,this]
   unfold Srt.ky at q;rw[gi,gj]at q;simpa using q
end
def Ite (K:FG) (a:Addr):It:=
 ⟨fun i H=> ∃(xs:List V) (x:V),SqL K H a xs/\xs[i]? =some x,
  fun i H v H'=> ∃(T:Addr) (x:V),v=.ref T/\H T=none/\H'=zh H T (.tup [.int i,x])/\∀xs,SqL K H a xs->xs[i]? =some x,
  fun i H=> ∃xs,SqL K H a xs/\xs.length<=i⟩
def EnSt (z i1 a:Addr) (i:Nat) (h:Heap):Prop:=(∃old,IsEnum h z i1 (i:Int) old)/\h.IsListIter i1 a i
def PB {P:Program} {w:World} {K:FG} {elts:List Expr} {x1} {tp:Pos} {z i1 a:Addr} (hne:z≠i1):Turn P w K (.Tuple elts x1 tp) (Ite K a) [z,i1] z (EnSt z i1 a) where
 mem:=by simp
 obj:=fun i h st c hc=>by
  obtain⟨⟨old,hz⟩,⟨o1,e1,_,d1⟩⟩:=st;simp only[Ag,C8,Cg]at hc
  rcases hc with rfl|rfl
  .exact⟨_,hz,fun v e=>by cases e⟩
  .exact⟨_,e1,fun v e=>by rw[d1]at e;cases e⟩
 keep:=fun i h h' st k=>by
  obtain⟨⟨old,hz⟩,h1⟩:=st;exact⟨⟨old,k z (by simp) _ hz⟩,h1.at fun o e=>k i1 (by simp) o e⟩
 item:=fun X hp hw hK hc i pins s σ H E I fp st go=>by
  subst hp hw hK;obtain⟨⟨old,hz⟩,h1⟩:=st;obtain⟨xs,x,qa,ex⟩:=go;obtain⟨vs,rv,pv,_⟩:=I.list qa;obtain⟨vx,evx,rvx⟩:=rv.get ex
  refine wpAny_pyNext_enum_item hz h1 pv.isList (x:=vx) (by simpa using evx) hne fun h' a1 a2 a3 a4 hk=>?_
  refine⟨_,rfl,wpAny_letOwnedTupleGo_enum a1 fun h'' b1 b2=>?_⟩
  have nz:s.heap.objs.size≠z:=Cz (Aj hz);have k2:∀c o,c∉[z,i1]->s.heap.get? c=some o->h''.get? c=some o:=fun c o hcn e=>by
   simp only[Ag,C8,Cg,not_or]at hcn;exact b2.extBut _ _ hcn.1 (hk c o hcn.1 hcn.2 e)
  have I':Inv X pins σ (zh H s.heap.objs.size (.tup [.int i,x])) {s with heap:=h'',toks:=s.toks+1}:=
   I.turnLay (ch:=[z,i1]) k2 (fun c hcn=>fp c hcn) (Nat.le_refl _)
    ⟨by show 2<=sizeLine;decide,[.int i s.toks,vx],.cons ⟨_,rfl⟩ (.cons rvx .nil),⟨_,b2.extBut _ _ nz a3,rfl,_,rfl⟩⟩
  have nf:H s.heap.objs.size=none:=I.hok.fresh (Nat.le_refl _)
  refine⟨.ref s.heap.objs.size,_,I',rfl,⟨_,x,rfl,nf,rfl,fun xs' q=>?_⟩,⟨⟨_,b1⟩,a2.extBut b2.extBut hne.symm⟩,fun c hcn=>?_⟩
  .rw[I.list_inj q qa];exact ex
  .have hc1:=fp c hcn
   have:c≠s.heap.objs.size:=by
    have hlt:c<s.heap.objs.size:=by
     simp only[Ag,C8,Cg]at hcn
     rcases hcn with rfl|rfl
     .exact Aj hz
     .obtain⟨_,e,_⟩:=h1;exact Aj e
    exact Au hlt
   rw[zj this];exact hc1.1
 done:=fun X hp hw hK hc i pins s σ H E I fp st stop=>by
  subst hp hw hK;obtain⟨⟨old,hz⟩,h1⟩:=st;obtain⟨xs,qa,hend⟩:=stop;obtain⟨vs,rv,pv,_⟩:=I.list qa;have l1:=rv.length
  refine wpAny_pyNext_enum_end (I.ok.hd hc) hz h1 pv.isList (by rw[Array.getElem?_eq_none_iff,Al];lia) fun h' hk=>⟨rfl,?_⟩
  refine I.turnedL (ch:=[z,i1]) (t':=s.toks) (fun c o hcn e=>?_) (fun c hcn=>fp c hcn)
  simp only[Ag,C8,Cg,not_or]at hcn;exact hk c o hcn.2 e
 self:=fun A i s Q E st h=>by
  obtain⟨⟨old,hz⟩,_⟩:=st;exact wpAny_pyIter_enum hz h
def PC (K:FG) (ta:TA):TI:=fun σ H R=>ta σ H fun vs H1=> ∃(a:Addr) (xs:List V),vs=[.ref a]/\SqL K H1 a xs/\R (Ite K a) H1
def PD {X:Cx} {elts:List Expr} {x1} {tp:Pos} {e1:Expr} {ta:TA} {p pos:Pos} (hg:Gl X "enumerate") (hm:X.mg "enumerate" =none) (ha:PA X [e1] ta) (hs:starEach [e1] X.env=[(false,eval e1 X.env)]:=by rfl):
  PI X (.Tuple elts x1 tp) (.Call (.Name "enumerate" p) [e1] [] pos) (PC X.K ta):=by
 intro pins s σ H R I h
 refine Call_ (DL I hg hm (by rfl) (Fp (zn (ha pos pins s σ H _ I h) fun us s1 ⟨vs,H1,I1,r1,q1⟩=>?_) hs rfl))
 obtain⟨a,xs,rfl,qa,q⟩:=q1;obtain⟨u,rfl,ru⟩:=AH r1;cases ru;obtain⟨vs,rva,pa,_⟩:=I1.list qa
 refine call_enumerate_list pa.isList fun h' hz hi1 hsz hk=>?_
 refine wpAny_pyIter_enum hz ?_
 have I2:Inv X pins σ H1 {s1 with heap:=h'}:=I1.kept (t':=s1.toks) hk
 refine⟨_,[s1.heap.objs.size+1,s1.heap.objs.size],_,_,H1,rfl,I2,PB (a:=a) (Cz (Nat.lt_succ_self _)),⟨⟨_,hz⟩,hi1⟩,fun c hc=>?_,q⟩
 have hge:s1.heap.objs.size<=c:=by
  simp only[Ag,C8,Cg]at hc
  rcases hc with rfl|rfl
  all_goals first|exact Nat.le_refl _|exact Nat.le_add_right _ _
 exact I1.fpOk hge (I1.hok.fresh hge)
def ltI (a b:Int):Bool:=decide (a<b)
def ordI:Srt.Ord ltI:=⟨fun a b c h1 h2=>by
 have h1:=Dl h1;have h2:=Dl h2;exact A6 (by lia),fun a b h=>by
 have h:=Dk h;exact A6 (by lia)⟩
section
variable {X:Cx}
def call_sortedI:CallR X (.builtin "sorted") (fun xs H Q=> ∃(p:Addr) (ns:List Int),xs=[.ref p]/\SqL X.K H p (ns.map V.int)/\ns.length<=100000/\
  ∀(l:Addr) (ns':List Int),H l=none->ns'.Perm ns->ns'.Pairwise (fun a b=>a<=b)->Q (.ref l) (zh H l (.lst (ns'.map V.int)))):=by
 intro pins s σ H xs us Q I r h;obtain⟨p,ns,rfl,hq,hbig,h⟩:=h;obtain⟨u,rfl,rx⟩:=AH r;cases rx;obtain⟨its,rv,pl,hz⟩:=I.list hq;have l1:=rv.length;rw[Ap]at l1;have one:∀i,i<ns.length->∃t,its.getD i Value.none=Value.int (ns.getD i 0) t:=fun i hi=>by
  obtain⟨v,ev,rvi⟩:=rv.get (i:=i) (x:=V.int ns[i]) (by simp[hi])
  obtain⟨t,rfl⟩:=rvi
  refine⟨t,?_⟩
  rw[Bt,ev,Bt,z0 hi];rfl
 refine Kn ordI (fun i=>ns.getD i 0) oneType' pl.isList (by lia) (fun i j hi hj e=>?_) (fun h6 Q' k6 h2 q=>?_) (fun h6 i j C k6 hi hj hC=>?_) fun P Pp Up=>?_
 .obtain⟨t,e1⟩:=one i (by lia)
  obtain⟨t',e2⟩:=one j (by lia)
  rw[e1,e2]at e;exact (Value.int.inj e).1
 .refine kas_kind (s:={s with heap:=h6}) (T:= .type "int") h2 (fun v hv=>?_) (by decide) (by decide) q
  obtain⟨i,hi,e⟩:=List.mem_iff_getElem.mp hv;obtain⟨t,e1⟩:=one i (by lia)
  rw[Bt,z0 hi]at e1;have e1:its[i]=_:=e1;rw[<-e,e1];exact fun A Q E s _ q=>Ai q
 .unfold kas_ask
  obtain⟨t,e1⟩:=one i (by lia)
  obtain⟨t',e2⟩:=one j (by lia)
  rw[e1,e2,keyLt'_oneType];exact oneLt_int hC
 .obtain⟨e,he⟩:=sortedAll_at s.heap its (List.toArray (P.toList.map fun i=>its.getD i Value.none))
  have mem:∀i∈P.toList,i<ns.length:=fun i hi=>by
   have:=B7.mp (Pp.perm.mem_iff.mp hi);lia
  have hv:Vals ((P.toList.map fun i=>ns.getD i 0).map V.int) (P.toList.map fun i=>its.getD i Value.none):=by
   rw[Cv]
   refine Paired.mapL fun i hi=>?_
   obtain⟨t,e1⟩:=one i (mem i hi);rw[e1];exact⟨t,rfl⟩
  have hpl:P.toList.length=its.length:=by rw[Ar,Pp.size]
  refine⟨.ref (s.heap.objs.size+1),_,I.laid (t':=s.toks) (o:= .lst ((P.toList.map fun i=>ns.getD i 0).map V.int)) (fun b o q=>sortedAll_old q) (De _) ?_,rfl,h _ (P.toList.map fun i=>ns.getD i 0) (I.hok.fresh (De _)) ?_ ?_⟩
  .exact⟨by rw[Ap,Ap];rw[Ap]at hz;lia,_,e,hv,he⟩
  .have q:=Pp.perm.map fun i=>ns.getD i 0
   have e:its.length=ns.length:=by lia
   rw[e,JS]at q;exact q
  .rw[Fc]
   intro i j hi hj hij;have hj':j<its.length:=by rw[Ap]at hj;lia
   have q:=Up i j (Cp hij) hj';have gi:P.getD i 0=P.toList[i]'(by rw[hpl];lia):=by
    have:i<P.size:=by rw[Pp.size];lia
    simp[Array.getD,this]
   have gj:P.getD j 0=P.toList[j]'(by rw[hpl];lia):=by
    have:j<P.size:=by rw[Pp.size];lia
    simp[Array.getD,this]
   unfold Srt.ky at q;rw[gi,gj]at q;have q:=Dl q;rw[List.getElem_map,List.getElem_map];exact Int.not_lt.mp q
end
def PF {a b:List Int} (p:a.Perm b) (ha:a.Pairwise (fun x y=>x<=y)) (hb:b.Pairwise (fun x y=>x<=y)):a=b:=
 p.eq_of_pairwise (fun x y _ _ h1 h2=>by lia) ha hb
end L2
namespace L3
open PySem L2
inductive V3 where
 |non|bl (b:Bool)|int (i:Int)|str (x:Str)|ty (n:String)
 |tup (xs:List V3)|lst (xs:List V3)|scr (ns:List Int)
 |dK (kvs:List (zw×V3))|dT (kvs:List (MK×V3))
 |obj (c:Str) (fs:List (Str×V3))|cls (c:Str)|fn (n:Str) (env:List V3)
 |loc (n:Nat)
inductive C3 where
 |lst (xs:List V3)|dK (kvs:List (zw×V3))|dT (kvs:List (MK×V3))|ins (c:Str) (fs:List (Str×V3))|dead|tab|tb2
inductive Vl where
 |v (x:V3)|m (c:C3)
structure X3 where
 c:Str
 nm:Option V3
abbrev S3:=List (Option Vl)
abbrev H3:=List C3
inductive Res (α:Type) where
 |ok (r:α) (h:H3)|ex (x:X3) (h:H3)|no
abbrev E3:=S3->H3->Res Vl
noncomputable def C3.fz:C3->Option V3
 |.lst xs=>some (.lst xs)
 |.dK kvs=>some (.dK kvs)
 |.dT kvs=>some (.dT kvs)
 |.ins c fs=>some (.obj c fs)
 |.dead=>none
 |.tab=>none
 |.tb2=>none
def Vl.fz:Vl->Option V3
 |.v x=>some x
 |.m c=>c.fz
noncomputable def Res.bind {α β:Type} (r:Res α) (k:α->H3->Res β):Res β:=match r with
 |.ok r h=>k r h
 |.ex x h=>.ex x h
 |.no=>.no
structure Kx where
 K:FG
 cl:Str->Option Addr
 tb:Addr:=0
 clo:Option (Addr×List V):=none
 lm:Addr->Addr->HO->HO->Prop:=fun _ _ _ _=>False
 tc:Addr->HO->HO->Prop:=fun _ _ _=>False
def KnL (K:FG) (a:Addr) (ns:List Int):Prop:=
 ∃(o:Obj) (its:Array Value) (n:Nat),K.lookup a=some o/\o.cls=.type "list" /\o.dict=none/\o.data=.seq its n/\its.size<=sizeLine/\Vals (ns.map V.int) its.toList
def XD (β:AO) (O:Addr->Prop) (H:Hp) (dd:Option Addr) (fs:List V3):Prop:=match dd with
 |none=>fs=[]
 |some d=> ∃z:Str,fs=[.str z]/\H d=some (.xd [(("name" :Str),V.str z)])/\some d∉β/\¬O d
def XD.imp {β β':AO} {O O':Addr->Prop} {H H':Hp} {dd:Option Addr} {fs:List V3} (x:XD β O H dd fs) (k:∀d o,H d=some o->some d∉β->¬O d->H' d=some o/\some d∉β'/\¬O' d):XD β' O' H' dd fs:=by
 cases dd with
 |none=>exact x
 |some d=>
  obtain⟨z,e,h,n,q⟩:=x;obtain⟨h1,n1,q1⟩:=k d _ h n q;exact⟨z,e,h1,n1,q1⟩
def Tk (β:AO) (O:Addr->Prop) (H:Hp) (a:Addr) (u:HO):Prop:=H a=some u/\some a∉β/\¬O a
def Tk.imp {β β':AO} {O O':Addr->Prop} {H H':Hp} {a:Addr} {u:HO} (x:Tk β O H a u) (k:∀d o,H d=some o->some d∉β->¬O d->H' d=some o/\some d∉β'/\¬O' d):Tk β' O' H' a u:=k a u x.1 x.2.1 x.2.2
mutual
inductive Rep (κ:Kx) (β:AO) (O:Addr->Prop) (H:Hp):V3->V->Prop
 |non:Rep κ β O H .non .non
 |bl (b:Bool):Rep κ β O H (.bl b) (.bl b)
 |int (i:Int):Rep κ β O H (.int i) (.int i)
 |str (x:Str):Rep κ β O H (.str x) (.str x)
 |ty (n:String):Rep κ β O H (.ty n) (.ty n)
 |tup {xs:List V3} {ys:List V} {a:Addr}:H a=some (.tup ys)->some a∉β->¬O a->Reps κ β O H xs ys->Rep κ β O H (.tup xs) (.ref a)
 |lst {xs:List V3} {ys:List V} {a:Addr}:H a=some (.lst ys)->some a∉β->¬O a->Reps κ β O H xs ys->Rep κ β O H (.lst xs) (.ref a)
 |scr {ns:List Int} {a:Addr} {o:Obj}:H a=some (.frz o (.lst (ns.map V.int)))->some a∉β->¬O a->Rep κ β O H (.scr ns) (.ref a)
 |scrK {ns:List Int} {a:Addr}:KnL κ.K a ns->Rep κ β O H (.scr ns) (.ref a)
 |dK {kvs:List (zw×V3)} {ws:List (zw×V)} {a:Addr}:H a=some (.dK ws)->some a∉β->¬O a->RepP κ β O H kvs ws->Rep κ β O H (.dK kvs) (.ref a)
 |dT {kvs:List (MK×V3)} {ws:List (MK×V)} {a:Addr}:H a=some (.dT ws)->some a∉β->¬O a->RepP κ β O H kvs ws->Rep κ β O H (.dT kvs) (.ref a)
 |obj {c:Str} {C:Addr} {fs:List (Str×V3)} {gs:List (Str×V)} {a dx:Addr}:κ.cl c=some C->H a=some (.ins C dx gs)->some a∉β->¬O a->RepP κ β O H fs gs->Rep κ β O H (.obj c fs) (.ref a)
 |cls {c:Str} {C:Addr}:κ.cl c=some C->Rep κ β O H (.cls c) (.ref C)
 |exc {c:Str} {C a:Addr} {dd:Option Addr} {fs:List V3}:κ.cl c=some C->H a=some (zV a (.ref C) dd)->some a∉β->¬O a->XD β O H dd fs->Rep κ β O H (.fn c fs) (.ref a)
 |clo {f:Addr} {us:List V} {vs:List V3}:κ.clo=some (f,us)->Reps κ β O H vs us->Rep κ β O H (.fn ("<fn>" :Str) vs) (.ref f)
 |lam {f c:Addr} {u v:HO}:κ.lm c f u v->Tk β O H f u->Tk β O H c v->Rep κ β O H (.fn ("<fn>" :Str) []) (.ref f)
 |loc {n:Nat} {v:V}:n<β.length->(∀a,β[n]? =some (some a)->v=.ref a)->Rep κ β O H (.loc n) v
inductive Reps (κ:Kx) (β:AO) (O:Addr->Prop) (H:Hp):List V3->List V->Prop
 |nil:Reps κ β O H [] []
 |cons {x:V3} {y:V} {xs:List V3} {ys:List V}:Rep κ β O H x y->Reps κ β O H xs ys->Reps κ β O H (x::xs) (y::ys)
inductive RepP (κ:Kx) (β:AO) (O:Addr->Prop) (H:Hp):{α:Type}->List (α×V3)->List (α×V)->Prop
 |nil {α:Type}:RepP κ β O H (α:=α) [] []
 |cons {α:Type} {k:α} {x:V3} {y:V} {xs:List (α×V3)} {ys:List (α×V)}:Rep κ β O H x y->RepP κ β O H xs ys->RepP κ β O H ((k,x)::xs) ((k,y)::ys)
end
structure Ext (M:Addr->Prop) (β:AO) (H:Hp) (β':AO) (H':Hp):Prop where
 keep:∀a o,H a=some o->some a∉β->¬M a->H' a=some o/\some a∉β'
 len:β.length<=β'.length
 bet:∀i a,i<β.length->β'[i]? =some (some a)->β[i]? =some (some a)
 there:∀a o,H a=some o->∃o',H' a=some o'
 nwb:∀(i:Nat) a,β.length<=i->β'[i]? =some (some a)->H a=none
def nwb0 {β:AO} {H:Hp}:∀(i:Nat) a,β.length<=i->β[i]? =some (some a)->H a=none:=fun i a h e=>by
 have:=(Aq.mp e).1;lia
abbrev No:Addr->Prop:=fun _=>False
def Ext.refl {M:Addr->Prop} {β:AO} {H:Hp}:Ext M β H β H:=⟨fun _ _ h n _=>⟨h,n⟩,Nat.le_refl _,fun _ _ _ h=>h,fun _ o h=>⟨o,h⟩,nwb0⟩
def Ks {β β1 β2:AO} {H H1:Hp} (t:∀a o,H a=some o->∃o',H1 a=some o') (bet:∀i a,i<β1.length->β2[i]? =some (some a)->β1[i]? =some (some a)) (n1:∀(i:Nat) a,β.length<=i->β1[i]? =some (some a)->H a=none)
  (n2:∀(i:Nat) a,β1.length<=i->β2[i]? =some (some a)->H1 a=none):∀(i:Nat) a,β.length<=i->β2[i]? =some (some a)->H a=none:=fun i a hi h=>by
 by_cases h1:i<β1.length
 .exact n1 i a hi (bet i a h1 h)
 .cases w:H a with
  |none=>rfl
  |some o=>
   obtain⟨o',z⟩:=t a o w;rw[n2 i a (by lia) h]at z;cases z
def Ext.trans0 {β β1 β2:AO} {H H1 H2:Hp} (a:Ext No β H β1 H1) (b:Ext No β1 H1 β2 H2):Ext No β H β2 H2:=
 ⟨fun x o h n m=>let ⟨h1,n1⟩:=a.keep x o h n m;b.keep x o h1 n1 m,Nat.le_trans a.len b.len,fun i x hi h=>a.bet i x hi (b.bet i x (Az hi a.len) h),fun x o h=>let ⟨o1,h1⟩:=a.there x o h;b.there x o1 h1,Ks a.there (fun i x hi h=>b.bet i x hi h) a.nwb b.nwb⟩
section
variable {κ:Kx} {β β':AO} {O O':Addr->Prop} {H H':Hp} {M:Addr->Prop}
mutual
theorem Rep.ext (e:Ext M β H β' H') (hM:∀a,M a->O a) (hO:∀a o,H a=some o->¬O a->¬O' a):∀{x:V3} {y:V},Rep κ β O H x y->Rep κ β' O' H' x y
 |_,_,.non=>.non
 |_,_,.bl b=>.bl b
 |_,_,.int i=>.int i
 |_,_,.str x=>.str x
 |_,_,.ty n=>.ty n
 |_,_,.tup h n o r=>let ⟨h1,n1⟩:=e.keep _ _ h n fun m=>o (hM _ m);.tup h1 n1 (hO _ _ h o) (Reps.ext e hM hO r)
 |_,_,.lst h n o r=>let ⟨h1,n1⟩:=e.keep _ _ h n fun m=>o (hM _ m);.lst h1 n1 (hO _ _ h o) (Reps.ext e hM hO r)
 |_,_,.scr h n o=>let ⟨h1,n1⟩:=e.keep _ _ h n fun m=>o (hM _ m);.scr h1 n1 (hO _ _ h o)
 |_,_,.scrK h=>.scrK h
 |_,_,.dK h n o r=>let ⟨h1,n1⟩:=e.keep _ _ h n fun m=>o (hM _ m);.dK h1 n1 (hO _ _ h o) (RepP.ext e hM hO r)
 |_,_,.dT h n o r=>let ⟨h1,n1⟩:=e.keep _ _ h n fun m=>o (hM _ m);.dT h1 n1 (hO _ _ h o) (RepP.ext e hM hO r)
 |_,_,.obj k h n o r=>let ⟨h1,n1⟩:=e.keep _ _ h n fun m=>o (hM _ m);.obj k h1 n1 (hO _ _ h o) (RepP.ext e hM hO r)
 |_,_,.cls k=>.cls k
 |_,_,.exc k h n o x=>let ⟨h1,n1⟩:=e.keep _ _ h n fun m=>o (hM _ m);.exc k h1 n1 (hO _ _ h o) (x.imp fun d u h n q=>let ⟨h1,n1⟩:=e.keep d u h n fun m=>q (hM _ m);⟨h1,n1,hO d u h q⟩)
 |_,_,.clo k r=>.clo k (Reps.ext e hM hO r)
 |_,_,.lam k r s=>.lam k (r.imp fun d u h n q=>let ⟨h1,n1⟩:=e.keep d u h n fun m=>q (hM _ m);⟨h1,n1,hO d u h q⟩) (s.imp fun d u h n q=>let ⟨h1,n1⟩:=e.keep d u h n fun m=>q (hM _ m);⟨h1,n1,hO d u h q⟩)
 |_,_,.loc l h=>.loc (Az l e.len) fun a q=>h a (e.bet _ _ l q)
theorem Reps.ext (e:Ext M β H β' H') (hM:∀a,M a->O a) (hO:∀a o,H a=some o->¬O a->¬O' a):∀{x:List V3} {y:List V},Reps κ β O H x y->Reps κ β' O' H' x y
 |_,_,.nil=>.nil
 |_,_,.cons a r=>.cons (Rep.ext e hM hO a) (Reps.ext e hM hO r)
theorem RepP.ext (e:Ext M β H β' H') (hM:∀a,M a->O a) (hO:∀a o,H a=some o->¬O a->¬O' a):∀{α:Type} {x:List (α×V3)} {y:List (α×V)},RepP κ β O H x y->RepP κ β' O' H' x y
 |_,_,_,.nil=>.nil
 |_,_,_,.cons a r=>.cons (Rep.ext e hM hO a) (RepP.ext e hM hO r)
end
end
section
variable {κ:Kx} {β β':AO} {O O':Addr->Prop} {H H':Hp} {M:Addr->Prop}
def Rep.sub (h:∀a,O' a->O a) {x:V3} {y:V} (r:Rep κ β O H x y):Rep κ β O' H x y:=r.ext (M:=No) Ext.refl (fun _ z=>z.elim) fun a _ _ n m=>n (h a m)
def Reps.sub (h:∀a,O' a->O a) {x:List V3} {y:List V} (r:Reps κ β O H x y):Reps κ β O' H x y:=r.ext (M:=No) Ext.refl (fun _ z=>z.elim) fun a _ _ n m=>n (h a m)
def RepP.sub (h:∀a,O' a->O a) {α:Type} {x:List (α×V3)} {y:List (α×V)} (r:RepP κ β O H x y):RepP κ β O' H x y:=r.ext (M:=No) Ext.refl (fun _ z=>z.elim) fun a _ _ n m=>n (h a m)
def Rep.ext0 (e:Ext No β H β' H') {x:V3} {y:V} (r:Rep κ β O H x y):Rep κ β' O H' x y:=r.ext e (fun _ z=>z.elim) fun _ _ _ n=>n
def Reps.ext0 (e:Ext No β H β' H') {x:List V3} {y:List V} (r:Reps κ β O H x y):Reps κ β' O H' x y:=r.ext e (fun _ z=>z.elim) fun _ _ _ n=>n
def RepP.ext0 (e:Ext No β H β' H') {α:Type} {x:List (α×V3)} {y:List (α×V)} (r:RepP κ β O H x y):RepP κ β' O H' x y:=r.ext e (fun _ z=>z.elim) fun _ _ _ n=>n
theorem Reps.length:∀{x:List V3} {y:List V},Reps κ β O H x y->x.length=y.length
 |_,_,.nil=>rfl
 |_,_,.cons _ r=>congrArg (· +1) r.length
theorem RepP.length {α:Type}:∀{x:List (α×V3)} {y:List (α×V)},RepP κ β O H x y->x.length=y.length
 |_,_,.nil=>rfl
 |_,_,.cons _ r=>congrArg (· +1) r.length
theorem Reps.get:∀{xs:List V3} {ys:List V} {i:Nat} {x:V3},Reps κ β O H xs ys->xs[i]? =some x->∃y,ys[i]? =some y/\Rep κ β O H x y
 |_,_,_,_,.nil,e=>by simp at e
 |_,_,0,_,.cons r _,e=>by simp at e;subst e;exact⟨_,rfl,r⟩
 |_,_,i+1,x,.cons _ t,e=>by
  obtain⟨u,h1,h2⟩:=Reps.get (i:=i) (x:=x) t (by simpa using e)
  exact⟨u,by simpa using h1,h2⟩
theorem Reps.get':∀{xs:List V3} {ys:List V} {i:Nat} {y:V},Reps κ β O H xs ys->ys[i]? =some y->∃x,xs[i]? =some x/\Rep κ β O H x y
 |_,_,_,_,.nil,e=>by simp at e
 |_,_,0,_,.cons r _,e=>by simp at e;subst e;exact⟨_,rfl,r⟩
 |_,_,i+1,x,.cons _ t,e=>by
  obtain⟨u,h1,h2⟩:=Reps.get' (i:=i) (y:=x) t (by simpa using e)
  exact⟨u,by simpa using h1,h2⟩
theorem Reps.append:∀{xs:List V3} {ys:List V} {xs':List V3} {ys':List V},Reps κ β O H xs ys->Reps κ β O H xs' ys'->Reps κ β O H (xs++xs') (ys++ys')
 |_,_,_,_,.nil,s=>s
 |_,_,_,_,.cons r t,s=>.cons r (Reps.append t s)
theorem Reps.set {x:V3} {u:V} (r:Rep κ β O H x u):∀{xs:List V3} {us:List V} (i:Nat),Reps κ β O H xs us->Reps κ β O H (xs.set i x) (us.set i u)
 |_,_,_,.nil=>.nil
 |_,_,0,.cons _ t=>.cons r t
 |_,_,i+1,.cons q t=>.cons q (Reps.set r i t)
theorem Reps.take:∀{xs:List V3} {us:List V} (n:Nat),Reps κ β O H xs us->Reps κ β O H (xs.take n) (us.take n)
 |_,_,0,_=>.nil
 |_,_,_+1,.nil=>.nil
 |_,_,n+1,.cons r t=>.cons r (Reps.take n t)
theorem Reps.drop:∀{xs:List V3} {us:List V} (n:Nat),Reps κ β O H xs us->Reps κ β O H (xs.drop n) (us.drop n)
 |_,_,0,r=>r
 |_,_,_+1,.nil=>.nil
 |_,_,n+1,.cons _ t=>Reps.drop n t
theorem Reps.dropLast {xs:List V3} {us:List V} (h:Reps κ β O H xs us):Reps κ β O H xs.dropLast us.dropLast:=by
 rw[List.dropLast_eq_take,List.dropLast_eq_take,h.length];exact h.take _
theorem Reps.rep {xs:List V3} {us:List V} (h:Reps κ β O H xs us):∀k:Nat,Reps κ β O H (List.replicate k xs).flatten (List.replicate k us).flatten
 |0=>.nil
 |k+1=>by
  rw[Cj,Cj,B3,B3];exact h.append (Reps.rep h k)
end
def CellR (κ:Kx) (β:AO) (O:Addr->Prop) (H:Hp):C3->Addr->Prop
 |.lst xs,a=> ∃ys,H a=some (.lst ys)/\Reps κ β O H xs ys
 |.dK kvs,a=> ∃ws,H a=some (.dK ws)/\RepP κ β O H kvs ws
 |.dT kvs,a=> ∃ws,H a=some (.dT ws)/\RepP κ β O H kvs ws
 |.ins c fs,a=> ∃C dx gs,κ.cl c=some C/\H a=some (.ins C dx gs)/\RepP κ β O H fs gs
 |.dead,_=>False
 |.tab,a=>a=κ.tb/\H a=some (.tbl #[])
 |.tb2,a=>a=κ.tb/\∃c t v,κ.tc c t v/\(∀ys,t≠HO.tup ys)/\H a=some t/\Tk β O H c v
structure RelH (κ:Kx) (O:Addr->Prop) (β:AO) (h:H3) (H:Hp):Prop where
 len:β.length=h.length
 inj:∀(i j:Nat) a,β[i]? =some (some a)->β[j]? =some (some a)->i=j
 off:∀a,O a->some a∉β
 trk:∀a,O a->∃o,H a=some o/\∀ys,o≠HO.tup ys
 btr:∀(i:Nat) a,β[i]? =some (some a)->∃o,H a=some o/\∀ys,o≠HO.tup ys
 cell:∀(i:Nat) c,h[i]? =some c->c=.dead\/∃a,β[i]? =some (some a)/\CellR κ β O H c a
structure Fr where
 Oi:Addr->Prop
 T:List Addr
 β:AO
 l:AO
 s:S3
 h:H3
def Fr.O (F:Fr):Addr->Prop:=fun a=>a∈F.T\/some a∈F.l\/F.Oi a
def SlotR (κ:Kx) (F:Fr) (H:Hp) (i:Nat):Vl->V->Prop
 |.v x,v=>Rep κ F.β F.O H x v
 |.m c,v=> ∃a,F.l[i]? =some (some a)/\v=.ref a/\CellR κ F.β F.O H c a
structure Rel (κ:Kx) (F:Fr) (σ:St) (H:Hp):Prop where
 heap:RelH κ F.O F.β F.h H
 slen:F.s.length=σ.length
 llen:F.l.length=F.s.length
 linj:∀(i j:Nat) a,F.l[i]? =some (some a)->F.l[j]? =some (some a)->i=j
 lt:∀a,some a∈F.l->a∉F.T
 lo:∀a,some a∈F.l->¬F.Oi a
 to:∀a∈F.T,¬F.Oi a
 tn:F.T.Nodup
 slot:∀(i:Nat) x,F.s[i]? =some (some x)->∃v,σ[i]? =some (some v)/\SlotR κ F H i x v
section
variable {κ:Kx} {β β':AO} {O O':Addr->Prop} {H H':Hp} {M:Addr->Prop} {c:C3} {a:Addr} {h:H3}
theorem CellR.sub (hs:∀a,O' a->O a) (r:CellR κ β O H c a):CellR κ β O' H c a:=by
 cases c with
 |lst xs=>obtain⟨_,q,r⟩:=r;exact⟨_,q,r.sub hs⟩
 |dK xs=>obtain⟨_,q,r⟩:=r;exact⟨_,q,r.sub hs⟩
 |dT xs=>obtain⟨_,q,r⟩:=r;exact⟨_,q,r.sub hs⟩
 |ins c fs=>obtain⟨_,_,_,k,q,r⟩:=r;exact⟨_,_,_,k,q,r.sub hs⟩
 |dead=>exact r
 |tab=>exact r
 |tb2=>obtain⟨r0,c,t,v,r1,r2,r3,r4⟩:=r;exact⟨r0,c,t,v,r1,r2,r3,r4.imp fun d u h n q=>⟨h,n,fun z=>q (hs _ z)⟩⟩
theorem CellR.ext (e:Ext M β H β' H') (hM:∀a,M a->O a) (hO:∀a o,H a=some o->¬O a->¬O' a) (hb:∀o,H a=some o->H' a=some o) (r:CellR κ β O H c a):CellR κ β' O' H' c a:=by
 cases c with
 |lst xs=>obtain⟨_,q,r⟩:=r;exact⟨_,hb _ q,r.ext e hM hO⟩
 |dK xs=>obtain⟨_,q,r⟩:=r;exact⟨_,hb _ q,r.ext e hM hO⟩
 |dT xs=>obtain⟨_,q,r⟩:=r;exact⟨_,hb _ q,r.ext e hM hO⟩
 |ins c fs=>obtain⟨_,_,_,k,q,r⟩:=r;exact⟨_,_,_,k,hb _ q,r.ext e hM hO⟩
 |dead=>exact r
 |tab=>exact⟨r.1,hb _ r.2⟩
 |tb2=>obtain⟨r0,c,t,v,r1,r2,r3,r4⟩:=r;exact⟨r0,c,t,v,r1,r2,hb _ r3,r4.imp fun d u h n q=>let ⟨h1,n1⟩:=e.keep d u h n fun m=>q (hM _ m);⟨h1,n1,hO d u h q⟩⟩
theorem CellR.fz {x:V3} (hc:c.fz=some x) (hn:some a∉β) (ho: ¬O a) (r:CellR κ β O H c a):Rep κ β O H x (.ref a):=by
 cases c with
 |lst xs=>cases hc;obtain⟨_,q,r⟩:=r;exact .lst q hn ho r
 |dK xs=>cases hc;obtain⟨_,q,r⟩:=r;exact .dK q hn ho r
 |dT xs=>cases hc;obtain⟨_,q,r⟩:=r;exact .dT q hn ho r
 |ins c fs=>cases hc;obtain⟨_,_,_,k,q,r⟩:=r;exact .obj k q hn ho r
 |dead=>exact r.elim
 |tab=>cases hc
 |tb2=>cases hc
theorem RelH.sub (hs:∀a,O' a->O a) (r:RelH κ O β h H):RelH κ O' β h H:=
 ⟨r.len,r.inj,fun a ha=>r.off a (hs a ha),fun a ha=>r.trk a (hs a ha),r.btr,fun i c hc=>(r.cell i c hc).imp id fun ⟨a,ha,q⟩=>⟨a,ha,q.sub hs⟩⟩
end
noncomputable abbrev Fr.with (F:Fr) (p:Addr):Fr:={F with T:=p::F.T}
noncomputable abbrev Fr.to (F:Fr) (β:AO) (h:H3):Fr:={F with β:=β,h:=h}
abbrev Nw (H:Hp):Addr->Prop:=fun p=>H p=none
def Post (κ:Kx) (N:Addr->Prop) (F:Fr) (σ:St) (H:Hp):Vl->V->Prop
 |.v x,v=>Rel κ F σ H/\Rep κ F.β F.O H x v
 |.m c,v=> ∃p,v=.ref p/\Rel κ (F.with p) σ H/\CellR κ F.β (F.with p).O H c p/\N p
def XOk (κ:Kx) (E:XK) (x:X3) (β:AO) (O:Addr->Prop) (H:Hp):Prop:=∀C dd,κ.cl x.c=some C->XD β O H dd x.nm.toList->E (.ref C) dd H
def XOk.sub {κ:Kx} {E:XK} {x:X3} {β:AO} {O O':Addr->Prop} {H:Hp} (o:XOk κ E x β O H) (hs:∀a,O a->O' a):XOk κ E x β O' H:=fun C dd hC q=>o C dd hC (q.imp fun d u h n m=>⟨h,n,fun z=>m (hs d z)⟩)
abbrev Kd (α ω:Type):=Hp->Fr->St->Hp->α->ω->Prop
def AX {α ω:Type} (K:Kd α ω):Prop:=∀(M:Addr->Prop) β H β1 H1 F σ H' a w,Ext M β H β1 H1->K H1 F σ H' a w->K H F σ H' a w
def Out {α ω:Type} (κ:Kx) (E:XK) (K:Kd α ω) (F:Fr) (σ:St) (H:Hp) (Q:ω->Hp->Prop):Res α->Prop
 |.ok a h'=> ∀β' w H',Ext No F.β H β' H'->K H (F.to β' h') σ H' a w->Q w H'
 |.ex x h'=> ∀β' H',Ext No F.β H β' H'->RelH κ F.Oi β' h' H'->XOk κ E x β' F.Oi H'
 |.no=>False
def tOf {α ω:Type} (κ:Kx) (E:XK) (K:Kd α ω) (d:S3->H3->Res α) (σ:St) (H:Hp) (Q:ω->Hp->Prop):Prop:=∃F,Rel κ F σ H/\Out κ E K F σ H Q (d F.s F.h)
def kE (κ:Kx):Kd Vl V:=fun H F σ H' r v=>Post κ (Nw H) F σ H' r v
abbrev zi (κ:Kx) (E:XK) (d:E3):TE:=tOf κ E (kE κ) d
section
variable {κ:Kx} {E:XK} {F:Fr} {σ:St} {H H':Hp} {Q:VK} {p:Addr}
def Fr.O_with {a:Addr} (h:F.O a):(F.with p).O a:=h.imp (fun z=>A1 _ z) id
theorem SlotR.sub {F F':Fr} {i:Nat} {x:Vl} {v:V} (hb:F'.β=F.β) (hl:F'.l=F.l) (hs:∀a,F'.O a->F.O a) (h:SlotR κ F H i x v):SlotR κ F' H i x v:=by
 cases x with
 |v x=>show Rep κ F'.β F'.O H x v;rw[hb];exact Rep.sub hs h
 |m c=>obtain⟨a,h1,h2,h3⟩:=h;refine⟨a,by rw[hl];exact h1,h2,?_⟩;rw[hb];exact h3.sub hs
def Rel.drop (h:Rel κ (F.with p) σ H):Rel κ F σ H where
 heap:=h.heap.sub fun a ha=>Fr.O_with ha
 slen:=h.slen
 llen:=h.llen
 linj:=h.linj
 lt:=fun a ha z=>h.lt a ha (A1 _ z)
 lo:=h.lo
 to:=fun a ha=>h.to a (A1 _ ha)
 tn:=(B1.mp h.tn).2
 slot:=fun i x e=>let ⟨v,a,b⟩:=h.slot i x e;⟨v,a,SlotR.sub (F:=F.with p) (F':=F) rfl rfl (fun a ha=>Fr.O_with ha) b⟩
def Rel.apart (h:Rel κ (F.with p) σ H): ¬F.O p:=fun z=>by
 rcases z with z|z|z
 .exact (B1.mp h.tn).1 z
 .exact h.lt p z Ax
 .exact h.to p Ax z
def Rel.offp (h:Rel κ (F.with p) σ H):some p∉F.β:=h.heap.off p (.inl Ax)
theorem Post.fz {N:Addr->Prop} {x:Vl} {y:V3} {v:V} (h:Post κ N F σ H x v) (e:x.fz=some y):Rel κ F σ H/\Rep κ F.β F.O H y v:=by
 cases x with
 |v x=>cases e;exact h
 |m c=>
  obtain⟨p,rfl,r,q,_⟩:=h;exact⟨r.drop,(q.sub (O':=F.O) fun a ha=>Fr.O_with ha).fz e r.offp r.apart⟩
def Post.imp {N N':Addr->Prop} {x:Vl} {v:V} (h:Post κ N F σ H x v) (k:∀p,N p->N' p):Post κ N' F σ H x v:=by
 cases x with
 |v x=>exact h
 |m c=>obtain⟨p,h1,h2,h3,h4⟩:=h;exact⟨p,h1,h2,h3,k p h4⟩
def Ext.nw {M:Addr->Prop} {β β':AO} {H0 H1:Hp} (e:Ext M β H0 β' H1):∀p,Nw H1 p->Nw H0 p:=fun p h=>by
 cases w:H0 p with
 |none=>exact w
 |some o=>obtain⟨o',z⟩:=e.there p o w;rw[h]at z;cases z
def Rel.slotExt {β':AO} {h':H3} (r:Rel κ F σ H) (e:Ext No F.β H β' H') {i:Nat} {x:Vl} {v:V} (q:SlotR κ F H i x v):SlotR κ (F.to β' h') H' i x v:=by
 cases x with
 |v x=>exact Rep.ext0 e q
 |m c=>
  obtain⟨a,h1,h2,h3⟩:=q;have ha:F.O a:= .inr (.inl (Am h1));exact⟨a,h1,h2,h3.ext e (fun _ z=>z.elim) (fun _ _ _ n=>n) fun o ho=>(e.keep a o ho (r.heap.off a ha) fun z=>z).1⟩
def Rel.next {β':AO} {h':H3} (r:Rel κ F σ H) (e:Ext No F.β H β' H') (rh:RelH κ F.O β' h' H'):Rel κ (F.to β' h') σ H' where
 heap:=rh
 slen:=r.slen
 llen:=r.llen
 linj:=r.linj
 lt:=r.lt
 lo:=r.lo
 to:=r.to
 tn:=r.tn
 slot:=fun i x hx=>let ⟨v,a,b⟩:=r.slot i x hx;⟨v,a,r.slotExt e b⟩
def Out.move {α ω:Type} {K:Kd α ω} {Q:ω->Hp->Prop} {r:Res α} {β':AO} {h':H3} (hK:AX K) (e:Ext No F.β H β' H') (o:Out κ E K F σ H Q r):Out κ E K (F.to β' h') σ H' Q r:=by
 cases r with
 |ok x h2=>exact fun β2 v H2 e2 p=>o β2 v H2 (e.trans0 e2) (hK _ _ _ _ _ _ _ _ _ _ e p)
 |ex x h2=>exact fun β2 H2 e2 p=>o β2 H2 (e.trans0 e2) p
 |no=>exact o
def zM:AX (kE κ):=fun M β H β1 H1 F σ H' a w e h=>Post.imp h e.nw
def tOf.mono {α ω:Type} {K:Kd α ω} {Q Q':ω->Hp->Prop} {d:S3->H3->Res α} (h:tOf κ E K d σ H Q) (k:∀v H,Q v H->Q' v H):tOf κ E K d σ H Q':=by
 obtain⟨F,rel,o⟩:=h
 refine⟨F,rel,?_⟩
 cases q:d F.s F.h with
 |ok r h1=>rw[q]at o;exact fun β v H' e p=>k _ _ (o β v H' e p)
 |ex x h1=>rw[q]at o;exact o
 |no=>rw[q]at o;exact o
def z7 {α ω α' ω':Type} {K:Kd α ω} {K':Kd α' ω'} {Q:ω'->Hp->Prop} {a:S3->H3->Res α} {k:α->H3->Res α'} (hK:AX K') (rel:Rel κ F σ H) (h:Out κ E K' F σ H Q ((a F.s F.h).bind k)):
  tOf κ E K a σ H (fun w H1=> ∃β1 h1 x,Ext No F.β H β1 H1/\K H (F.to β1 h1) σ H1 x w/\Out κ E K' (F.to β1 h1) σ H1 Q (k x h1)):=by
 refine⟨F,rel,?_⟩
 cases q:a F.s F.h with
 |no=>rw[q]at h;exact h
 |ex x h1=>rw[q]at h;exact h
 |ok r h1=>rw[q]at h;exact fun β1 v H1 e p=>⟨β1,h1,r,e,p,Out.move hK e h⟩
def yh {β:AO} {o:HO} (hp:H p=none):Ext No β H β (zh H p o):=
 ⟨fun a u ha hn _=>⟨by rw[zj (ym ha hp)];exact ha,hn⟩,Nat.le_refl _,fun _ _ _ h=>h,fun a u ha=>⟨u,by rw[zj (ym ha hp)];exact ha⟩,nwb0⟩
def RelH.trk' {O:Addr->Prop} {β:AO} {h:H3} (r:RelH κ O β h H) (a:Addr) (ha:O a):∃o,H a=some o:=let ⟨u,q,_⟩:=r.trk a ha;⟨u,q⟩
def RelH.btr' {O:Addr->Prop} {β:AO} {h:H3} (r:RelH κ O β h H) (i:Nat) (a:Addr) (e:β[i]? =some (some a)):∃o,H a=some o:=let ⟨u,q,_⟩:=r.btr i a e;⟨u,q⟩
def CellR.nt {β:AO} {O:Addr->Prop} {c:C3} {u:HO} {l:Addr} (h:CellR κ β O (zh H l u) c l):∀ys,u≠HO.tup ys:=by
 intro ys z;subst z;cases c with
 |lst xs=>obtain⟨_,e,_⟩:=h;rw[zF]at e;cases e
 |dK xs=>obtain⟨_,e,_⟩:=h;rw[zF]at e;cases e
 |dT xs=>obtain⟨_,e,_⟩:=h;rw[zF]at e;cases e
 |ins c fs=>obtain⟨_,_,_,_,e,_⟩:=h;rw[zF]at e;cases e
 |dead=>exact h
 |tab=>obtain⟨_,e⟩:=h;rw[zF]at e;cases e
 |tb2=>obtain⟨_,_,_,_,_,n,e,_⟩:=h;rw[zF]at e;cases e;exact n _ rfl
def RelH.off_new {O:Addr->Prop} {β:AO} {h:H3} (r:RelH κ O β h H) (hp:H p=none):some p∉β/\¬O p:=by
 refine⟨fun z=>?_,fun z=>?_⟩
 .obtain⟨i,hi⟩:=Cw z
  obtain⟨o,ho,_⟩:=r.btr i p hi;rw[hp]at ho;cases ho
 .obtain⟨o,ho,_⟩:=r.trk p z
  rw[hp]at ho;cases ho
def RelH.laid {O:Addr->Prop} {β:AO} {h:H3} {o:HO} (r:RelH κ O β h H) (hp:H p=none):RelH κ O β h (zh H p o):=by
 have k:∀a u,H a=some u->zh H p o a=some u:=fun a u ha=>by rw[zj (ym ha hp)];exact ha
 exact⟨r.len,r.inj,r.off,fun a ha=>let ⟨u,q,n⟩:=r.trk a ha;⟨u,k a u q,n⟩,fun i a e=>let ⟨u,q,n⟩:=r.btr i a e;⟨u,k a u q,n⟩,
  fun i c hc=>(r.cell i c hc).imp id fun ⟨a,ha,q⟩=>⟨a,ha,q.ext (yh hp) (fun _ z=>z.elim) (fun _ _ _ n=>n) fun u hu=>k a u hu⟩⟩
theorem Rel.laid {o:HO} (r:Rel κ F σ H) (hp:H p=none):Rel κ F σ (zh H p o):=r.next (yh hp) (r.heap.laid hp)
def O_ne {a:Addr} (h:(F.with p).O a) (hne:a≠p):F.O a:=by
 rcases h with h|h
 .rcases Ag.mp h with h|h
  .exact absurd h hne
  .exact .inl h
 .exact .inr h
def Rel.new {o:HO} (r:Rel κ F σ H) (hp:H p=none) (ho:∀ys,o≠HO.tup ys:=by intro _ z;cases z):Rel κ (F.with p) σ (zh H p o)/\∀{x:V3} {y:V},Rep κ F.β F.O H x y->Rep κ F.β (F.with p).O (zh H p o) x y:=by
 obtain⟨n1,n2⟩:=r.heap.off_new hp;have e:Ext No F.β H F.β (zh H p o):=yh hp;have hM:∀a,No a->F.O a:=fun _ z=>z.elim
 have hO:∀a u,H a=some u->¬F.O a->¬(F.with p).O a:=fun a u ha n z=>n (O_ne z (ym ha hp))
 have k:∀a u,H a=some u->zh H p o a=some u:=fun a u ha=>by rw[zj (ym ha hp)];exact ha
 refine⟨⟨⟨r.heap.len,r.heap.inj,fun a ha=>?_,fun a ha=>?_,fun i a q=>let ⟨u,z,n⟩:=r.heap.btr i a q;⟨u,k a u z,n⟩,fun i c hc=>(r.heap.cell i c hc).imp id fun ⟨a,ha,q⟩=>⟨a,ha,q.ext e hM hO fun u hu=>k a u hu⟩⟩,
  r.slen,r.llen,r.linj,?_,r.lo,?_,B1.mpr ⟨fun z=>n2 (.inl z),r.tn⟩,fun i x q=>?_⟩,fun h=>h.ext e hM hO⟩
 .by_cases z:a=p
  .subst z;exact n1
  .exact r.heap.off a (O_ne ha z)
 .by_cases z:a=p
  .subst z;exact⟨o,zF,ho⟩
  .obtain⟨u,q,n⟩:=r.heap.trk a (O_ne ha z);exact⟨u,k a u q,n⟩
 .intro a ha z
  rcases Ag.mp z with z|z
  .subst z;exact n2 (.inr (.inl ha))
  .exact r.lt a ha z
 .intro a ha z
  rcases Ag.mp ha with h|h
  .subst h;exact n2 (.inr (.inr z))
  .exact r.to a h z
 .obtain⟨v,h1,h2⟩:=r.slot i x q
  refine⟨v,h1,?_⟩
  cases x with
  |v x=>exact Rep.ext e hM hO h2
  |m c=>
   obtain⟨a,a1,a2,a3⟩:=h2;exact⟨a,a1,a2,a3.ext e hM hO fun u hu=>k a u hu⟩
def Out.val {x:V3} {v:V} (o:Out κ E (kE κ) F σ H Q (.ok (.v x) F.h)) (rel:Rel κ F σ H) (r:Rep κ F.β F.O H x v):Q v H:=o F.β v H Ext.refl ⟨rel,r⟩
inductive Rf where
 |x (v:V3)|s (i:Nat)
abbrev P3:=S3->H3->Res Rf
noncomputable def pV (i:Nat):P3:=fun s h=>match s[i]? with
 |some (some (.v x))=>.ok (.x x) h
 |some (some (.m _))=>.ok (.s i) h
 |_=>.no
def pE (e:E3):P3:=fun s h=>(e s h).bind fun r h1=>match r.fz with
 |some x=>.ok (.x x) h1
 |none=>.no
def RfR (κ:Kx) (F:Fr) (H:Hp):Rf->V->Prop
 |.x y,v=>Rep κ F.β F.O H y v
 |.s i,v=> ∃a c,F.l[i]? =some (some a)/\v=.ref a/\F.s[i]? =some (some (.m c))/\CellR κ F.β F.O H c a
def kP (κ:Kx):Kd Rf V:=fun _ F σ H' f v=>Rel κ F σ H'/\RfR κ F H' f v
abbrev zt (κ:Kx) (E:XK) (d:P3):TE:=tOf κ E (kP κ) d
def km_P:AX (kP κ):=fun _ _ _ _ _ _ _ _ _ _ _ h=>h
theorem RfR.ext {β':AO} {h':H3} {f:Rf} {v:V} (rel:Rel κ F σ H) (e:Ext No F.β H β' H') (r:RfR κ F H f v):RfR κ (F.to β' h') H' f v:=by
 cases f with
 |x y=>exact Rep.ext0 e r
 |s i=>
  obtain⟨a,c,h1,h2,h3,h4⟩:=r;have ha:F.O a:= .inr (.inl (Am h1));exact⟨a,c,h1,h2,h3,h4.ext e (fun _ z=>z.elim) (fun _ _ _ n=>n) fun o ho=>(e.keep a o ho (rel.heap.off a ha) fun z=>z).1⟩
noncomputable def rdl (s:S3) (h:H3):Rf->Option (List V3)
 |.x (.lst xs)=>some xs
 |.x (.scr ns)=>some (ns.map .int)
 |.x (.loc n)=>match h[n]? with
  |some (.lst xs)=>some xs
  |_=>none
 |.s i=>match s[i]? with
  |some (some (.m (.lst xs)))=>some xs
  |_=>none
 |_=>none
def AK {f:Rf} {v:V} {xs:List V3} (rel:Rel κ F σ H) (r:RfR κ F H f v) (e:rdl F.s F.h f=some xs):∃a ys,v=.ref a/\SqL κ.K H a ys/\Reps κ F.β F.O H xs ys:=by
 cases f with
 |s i=>
  obtain⟨a,c,h1,h2,h3,h4⟩:=r;simp only[rdl,h3]at e;cases c<;>simp at e
  subst e;obtain⟨ys,h5,h6⟩:=h4;exact⟨a,ys,h2,.of h5,h6⟩
 |x y=>
  cases y<;>simp[rdl]at e
  case lst zs=>
   subst e;cases r with
   |lst h1 h2 h3 h4=>exact⟨_,_,rfl,.of h1,h4⟩
  case scr ns=>
   subst e;have g:∀l:List Int,Reps κ F.β F.O H (l.map V3.int) (l.map V.int):=fun l=>by
    induction l with
    |nil=>exact .nil
    |cons x r ih=>exact .cons (.int x) ih
   cases r with
   |scr h1 h2 h3=>exact⟨_,_,rfl,.inl (.inr ⟨_,h1⟩),g ns⟩
   |scrK h=>exact⟨_,_,rfl,.inr h,g ns⟩
  case loc n=>
   cases r with
   |loc h1 h2=>
    cases q:F.h[n]? with
    |none=>rw[q]at e;cases e
    |some c=>
     rw[q]at e;cases c<;>simp at e
     subst e
     rcases rel.heap.cell n _ q with z|⟨a,ha,ys,h5,h6⟩
     .cases z
     .exact⟨a,ys,h2 a ha,.of h5,h6⟩
end
abbrev A3:=S3->H3->Res (List Rf)
noncomputable def aNil:A3:=fun _ h=>.ok [] h
def aCons (p:P3) (a:A3):A3:=fun s h=>(p s h).bind fun f h1=>(a s h1).bind fun fs h2=>.ok (f::fs) h2
def kA (κ:Kx):Kd (List Rf) (List V):=fun _ F σ H' fs vs=>Rel κ F σ H'/\Paired (RfR κ F H') fs vs
abbrev zG (κ:Kx) (E:XK) (d:A3):TA:=tOf κ E (kA κ) d
noncomputable def vals3:List Rf->Option (List V3)
 | []=>some []
 |.x v::r=>(vals3 r).map (v:: ·)
 |.s _::_=>none
abbrev T3:=S3->H3->Res Bool
def kT (κ:Kx):Kd Bool Bool:=fun _ F σ H' b b'=>b'=b/\Rel κ F σ H'
abbrev zQ (κ:Kx) (E:XK) (d:T3):TT:=tOf κ E (kT κ) d
section
variable {X:Cx} {κ:Kx} {E:XK} {F:Fr} {σ:St} {H H':Hp} {Q:VK} {p:Addr} {e a b:Expr} {pos:Pos} {i:Nat}
def km_A:AX (kA κ):=fun _ _ _ _ _ _ _ _ _ _ _ h=>h
def km_T:AX (kT κ):=fun _ _ _ _ _ _ _ _ _ _ _ h=>h
def yu {t t':TE} (h:PE X e t) (w:∀σ H Q,t' σ H Q->t σ H Q):PE X e t':=fun pins s σ H Q I q=>h pins s σ H Q I (w σ H Q q)
def PTw {t t':TT} (h:PT X e t) (w:∀σ H Q,t' σ H Q->t σ H Q):PT X e t':=fun pins s σ H Q I q=>h pins s σ H Q I (w σ H Q q)
def PWw {t t':TT} (h:PW X e t) (w:∀σ H Q,t' σ H Q->t σ H Q):PW X e t':=fun wh pins s σ H Q I q=>h wh pins s σ H Q I (w σ H Q q)
def PAw {es:List Expr} {t t':TA} (h:PA X es t) (w:∀σ H Q,t' σ H Q->t σ H Q):PA X es t':=fun pos pins s σ H Q I q=>h pos pins s σ H Q I (w σ H Q q)
noncomputable def eV (i:Nat):E3:=fun s h=>match s[i]? with
 |some (some (.v x))=>.ok (.v x) h
 |_=>.no
noncomputable def eC (x:V3):E3:=fun _ h=>.ok (.v x) h
abbrev kJ (n:Int):P3:=pE (eC (.int n))
def r_v (hv:PE X e (yn i)):PE X e (zi κ E (eV i)):=yu hv fun σ H Q ⟨F,rel,o⟩=>by
 unfold eV at o;cases q:F.s[i]? with
 |none=>rw[q]at o;exact o.elim
 |some z=>
  rw[q]at o
  match z,q,o with
  |none,q,o=>exact o.elim
  |some (.m c),q,o=>exact o.elim
  |some (.v x),q,o=>
   obtain⟨v,h1,h2⟩:=rel.slot i _ q;exact⟨v,h1,o.val rel h2⟩
def zb (hv:PE X e (yn i)):PE X e (zt κ E (pV i)):=yu hv fun σ H Q ⟨F,rel,o⟩=>by
 unfold pV at o;cases q:F.s[i]? with
 |none=>rw[q]at o;exact o.elim
 |some z=>
  rw[q]at o
  match z,q,o with
  |none,q,o=>exact o.elim
  |some (.m c),q,o=>
   obtain⟨v,h1,a,h2,h3,h4⟩:=rel.slot i _ q;exact⟨v,h1,o F.β v H Ext.refl ⟨rel,a,c,h2,h3,q,h4⟩⟩
  |some (.v x),q,o=>
   obtain⟨v,h1,h2⟩:=rel.slot i _ q;exact⟨v,h1,o F.β v H Ext.refl ⟨rel,h2⟩⟩
def za {d:E3} (h:PE X e (zi κ E d)):PE X e (zt κ E (pE d)):=yu h fun σ H Q ⟨F,rel,o⟩=>
 (z7 (K:=kE κ) km_P rel o).mono fun v H1 ⟨β1,h1,x,e1,p1,o1⟩=>by
  cases z:x.fz with
  |none=>simp only[z]at o1;exact o1.elim
  |some y=>
   simp only[z]at o1;obtain⟨r1,r2⟩:=Post.fz p1 z;exact o1 β1 v H1 Ext.refl ⟨r1,r2⟩
def yd {x:V3} {v:V} (hc:PE X e (tC v)) (r:∀β O H,Rep κ β O H x v):PE X e (zi κ E (eC x)):=yu hc fun σ H Q ⟨F,rel,o⟩=>o.val rel (r _ _ _)
def zg {i j pos}:PE X (.Constant (.int i) j pos) (zi κ E (eC (.int i))):=yd Jv fun _ _ _=>.int i
def zW {b j pos}:PE X (.Constant (.bool b) j pos) (zi κ E (eC (.bl b))):=yd MN fun _ _ _=>.bl b
def qx {j pos}:PE X (.Constant .none j pos) (zi κ E (eC .non)):=yd MO fun _ _ _=>.non
def y8 {x j pos}:PE X (.Constant (.str x) j pos) (zi κ E (eC (.str x))):=yd CJ fun _ _ _=>.str x
def zf:PA X [] (zG κ E aNil):=PAw DS fun σ H Q ⟨F,rel,o⟩=>o F.β [] H Ext.refl ⟨rel,.nil⟩
def zc {es:List Expr} {d:P3} {t:A3} (ha:PE X e (zt κ E d)) (hr:PA X es (zG κ E t)) (hs:SE X e es:=by rfl):PA X (e::es) (zG κ E (aCons d t)):=
 PAw (AI ha hr hs) fun σ H Q ⟨F,rel,o⟩=>
  (z7 (K:=kP κ) km_A rel o).mono fun v H1 ⟨β1,h1,x,e1,⟨r1,rf1⟩,o1⟩=>
   (z7 (F:=F.to β1 h1) (K:=kA κ) km_A r1 o1).mono fun vs H2 ⟨β2,h2,fs,e2,⟨r2,rf2⟩,o2⟩=>o2 β2 (v::vs) H2 Ext.refl ⟨r2,.cons (RfR.ext (F:=F.to β1 h1) (β':=β2) (h':=h2) r1 e2 rf1) rf2⟩
theorem BL:∀{fs:List Rf} {vs:List V} {xs:List V3},Paired (RfR κ F H) fs vs->vals3 fs=some xs->Reps κ F.β F.O H xs vs
 |_,_,_,.nil,e=>by cases e;exact .nil
 |f::fs,v::vs,xs,.cons q t,e=>by
  cases f with
  |s i=>cases e
  |x y=>
   unfold vals3 at e;cases z:vals3 fs with
   |none=>rw[z]at e;cases e
   |some l=>rw[z]at e;cases e;exact .cons q (BL t z)
abbrev F2:=S3->H3->Rf->Rf->Option Vl
noncomputable def opt (h:H3):Option Vl->Res Vl
 |some z=>.ok z h
 |none=>.no
def eOp (f:F2) (a b:P3):E3:=fun s h=>(a s h).bind fun x h1=>(b s h1).bind fun y h2=>opt h2 (f s h2 x y)
def OpSim (κ:Kx) (r:R2) (f:F2):Prop:=∀(F:Fr) (σ:St) (H:Hp) (x y:Rf) (z:Vl) (v w:V) (Q:VK),Rel κ F σ H->RfR κ F H x v->RfR κ F H y w->f F.s F.h x y=some z->
 (∀u H',Ext No F.β H F.β H'->Post κ (Nw H) F σ H' z u->Q u H')->r v w H Q
theorem Out.opt {o:Option Vl} {h:H3} (h0:F.h=h) (q:Out κ E (kE κ) F σ H Q (opt h o)):∃z,o=some z/\∀u H',Ext No F.β H F.β H'->Post κ (Nw H) F σ H' z u->Q u H':=by
 cases o with
 |none=>exact q.elim
 |some z=>subst h0;exact⟨z,rfl,fun u H' e p=>q F.β u H' e p⟩
def Gz {r:R2} {f:F2} {a b:P3} (hs:OpSim κ r f) (h:zi κ E (eOp f a b) σ H Q):tOp r (zt κ E a) (zt κ E b) σ H Q:=by
 obtain⟨F,rel,o⟩:=h
 refine (z7 (K:=kP κ) zM rel o).mono fun v H1 ⟨β1,h1,f1,e1,⟨r1,rf1⟩,o1⟩=>?_
 refine (z7 (F:=F.to β1 h1) (K:=kP κ) zM r1 o1).mono fun w H2 ⟨β2,h2,f2,e2,⟨r2,rf2⟩,o2⟩=>?_
 obtain⟨z,q,k⟩:=Out.opt (F:=F.to β2 h2) rfl o2;exact hs (F.to β2 h2) σ H2 f1 f2 z v w Q r2 (RfR.ext (F:=F.to β1 h1) (β':=β2) (h':=h2) r1 e2 rf1) rf2 q k
def zo {op:Operator} {r:R2} {f:F2} {da db:P3} (hs:OpSim κ r f) (ho:OpR X (binaryOp op) r) (ha:PE X a (zt κ E da)) (hb:PE X b (zt κ E db)):PE X (.BinOp a op b pos) (zi κ E (eOp f da db)):=yu (Nq ho ha hb) fun _ _ _ h=>Gz hs h
def AY {op:CmpOp} {r:R2} {f:F2} {da db:P3} (hs:OpSim κ r f) (ho:OpR X (compareOp op) r) (hm:behindInMarks op b=false) (ha:PE X a (zt κ E da)) (hb:PE X b (zt κ E db)):PE X (.Compare a [op] [b] pos) (zi κ E (eOp f da db)):=yu (Nx ho ha hb hm) fun _ _ _ h=>Gz hs h
def zu {r:R2} {f:F2} {da db:P3} (hs:OpSim κ r f) (ho:IxR X r) (hm:JG b) (ha:PE X a (zt κ E da)) (hb:PE X b (zt κ E db)):PE X (.Subscript a b pos) (zi κ E (eOp f da db)):=yu (Ob ho ha hb hm) fun _ _ _ h=>Gz hs h
abbrev FB:=S3->H3->List Rf->Option Vl
def eB (f:FB) (a:A3):E3:=fun s h=>(a s h).bind fun fs h1=>opt h1 (f s h1 fs)
def qr (κ:Kx) (r:List V->Hp->VK->Prop) (f:FB):Prop:=∀(F:Fr) (σ:St) (H:Hp) (fs:List Rf) (z:Vl) (vs:List V) (Q:VK),Rel κ F σ H->Paired (RfR κ F H) fs vs->f F.s F.h fs=some z->
 (∀u H',Ext No F.β H F.β H'->Post κ (Nw H) F σ H' z u->Q u H')->r vs H Q
def te_b {r:List V->Hp->VK->Prop} {f:FB} {a:A3} (hs:qr κ r f) (h:zi κ E (eB f a) σ H Q):tCB r (zG κ E a) σ H Q:=by
 obtain⟨F,rel,o⟩:=h
 refine (z7 (K:=kA κ) zM rel o).mono fun vs H1 ⟨β1,h1,fs,e1,⟨r1,rf1⟩,o1⟩=>?_
 obtain⟨z,q,k⟩:=Out.opt (F:=F.to β1 h1) rfl o1;exact hs (F.to β1 h1) σ H1 fs z vs Q r1 rf1 q k
def Kt {a:Addr} {u:HO} (hp:H p=none) (ha:H a=some u) (n: ¬F.O a): ¬(F.with p).O a:=fun z=>n (O_ne z (ym ha hp))
theorem Post.lst {xs:List V3} {ys:List V} (rel:Rel κ F σ H) (hp:H p=none) (r:Reps κ F.β F.O H xs ys):Post κ (Nw H) F σ (zh H p (.lst ys)) (.m (.lst xs)) (.ref p):=by
 obtain⟨r1,r2⟩:=rel.new (o:= .lst ys) hp;exact⟨p,rfl,r1,⟨ys,zF,r.ext (yh hp) (fun _ z=>z.elim) fun a u ha n=>Kt hp ha n⟩,hp⟩
theorem Post.dT {xs:List (MK×V3)} {ys:List (MK×V)} (rel:Rel κ F σ H) (hp:H p=none) (r:RepP κ F.β F.O H xs ys):Post κ (Nw H) F σ (zh H p (.dT ys)) (.m (.dT xs)) (.ref p):=by
 obtain⟨r1,r2⟩:=rel.new (o:= .dT ys) hp;exact⟨p,rfl,r1,⟨ys,zF,r.ext (yh hp) (fun _ z=>z.elim) fun a u ha n=>Kt hp ha n⟩,hp⟩
theorem Post.tup {xs:List V3} {ys:List V} {N:Addr->Prop} (rel:Rel κ F σ H) (hp:H p=none) (r:Reps κ F.β F.O H xs ys):Post κ N F σ (zh H p (.tup ys)) (.v (.tup xs)) (.ref p):=by
 obtain⟨n1,n2⟩:=rel.heap.off_new hp;exact⟨rel.laid hp,.tup zF n1 n2 (r.ext0 (yh hp))⟩
def eTup (a:A3):E3:=fun s h=>(a s h).bind fun fs h1=>match vals3 fs with
 |some xs=>if xs.length<=sizeLine then .ok (.v (.tup xs)) h1 else .no
 |none=>.no
def eLst (a:A3):E3:=fun s h=>(a s h).bind fun fs h1=>match vals3 fs with
 |some xs=>if xs.length<=sizeLine then .ok (.m (.lst xs)) h1 else .no
 |none=>.no
def yH {es:List Expr} {x1} {t:A3} (h:PA X es (zG κ E t)):PE X (.Tuple es x1 pos) (zi κ E (eTup t)):=yu (NH h) fun σ H Q ⟨F,rel,o⟩=>
 (z7 (K:=kA κ) zM rel o).mono fun vs H1 ⟨β1,h1,fs,e1,⟨r1,rf1⟩,o1⟩=>by
  cases q:vals3 fs with
  |none=>simp only[q]at o1;exact o1.elim
  |some xs=>
   simp only[q]at o1;have hr:=BL rf1 q
   by_cases hz:xs.length<=sizeLine
   .rw[Aa hz]at o1
    exact⟨by rw[<-hr.length];exact hz,fun p hp=>o1 β1 (.ref p) _ (yh hp) (Post.tup r1 hp hr)⟩
   .rw[Ab hz]at o1;exact o1.elim
def yj {es:List Expr} {t:A3} (h:PA X es (zG κ E t)):PE X (.List es pos) (zi κ E (eLst t)):=yu (NI h) fun σ H Q ⟨F,rel,o⟩=>
 (z7 (K:=kA κ) zM rel o).mono fun vs H1 ⟨β1,h1,fs,e1,⟨r1,rf1⟩,o1⟩=>by
  cases q:vals3 fs with
  |none=>simp only[q]at o1;exact o1.elim
  |some xs=>
   simp only[q]at o1;have hr:=BL rf1 q
   by_cases hz:xs.length<=sizeLine
   .rw[Aa hz]at o1
    exact⟨by rw[<-hr.length];exact hz,fun p hp=>o1 β1 (.ref p) _ (yh hp) (Post.lst r1 hp hr)⟩
   .rw[Ab hz]at o1;exact o1.elim
def tE (e:E3):T3:=fun s h=>(e s h).bind fun r h1=>match r with
 |.v (.bl b)=>.ok b h1
 |_=>.no
def G0 {d:E3} {Q:Bool->Hp->Prop} (h:zQ κ E (tE d) σ H Q):zi κ E d σ H (fun x H'=> ∃k,x=.bl k/\Q k H'):=by
 obtain⟨F,rel,o⟩:=h
 refine (z7 (K:=kE κ) km_T rel o).mono fun v H1 ⟨β1,h1,x,e1,p1,o1⟩=>?_
 match x,p1,o1 with
 |.v (.bl b),p1,o1=>
  obtain⟨r1,r2⟩:=p1;cases r2;exact⟨b,rfl,o1 β1 b H1 Ext.refl ⟨rfl,r1⟩⟩
def z8 {op:CmpOp} {r:R2} {f:F2} {da db:P3} (hs:OpSim κ r f) (ho:OpR X (compareOp op) r) (hm:behindInMarks op b=false) (ha:PE X a (zt κ E da)) (hb:PE X b (zt κ E db)):PT X (.Compare a [op] [b] pos) (zQ κ E (tE (eOp f da db))):=PTw (Nz ho ha hb hm) fun _ _ _ h=>Gz hs (G0 h)
def qC {d:E3} (h:PE X e (zi κ E d)) (he:∀whole,isTrue e X.env whole=(do let v <-whole;standAt e.pos;holding [v] (truthy v)):=by intro _;rfl):PT X e (zQ κ E (tE d)):=PTw (MP h he) fun _ _ _ q=>G0 q
def tAnd3 (a b:T3):T3:=fun s h=>(a s h).bind fun c h1=>if c=true then b s h1 else .ok false h1
def tOr3 (a b:T3):T3:=fun s h=>(a s h).bind fun c h1=>if c=true then .ok true h1 else b s h1
def tNot3 (a:T3):T3:=fun s h=>(a s h).bind fun c h1=>.ok (!c) h1
def G1 {t:T3} (ha:PT X a (zQ κ E t)):PW X (.BoolOp .And [a] pos) (zQ κ E t):=MQ ha
def qK {t:T3} (ha:PT X a (zQ κ E t)):PW X (.BoolOp .Or [a] pos) (zQ κ E t):=MR ha
def G2 {t u:T3} {rest:List Expr} (ha:PT X a (zQ κ E t)) (hb:PW X (.BoolOp .And (b::rest) pos) (zQ κ E u)):PW X (.BoolOp .And (a::b::rest) pos) (zQ κ E (tAnd3 t u)):=PWw (MS ha hb) fun σ H Q ⟨F,rel,o⟩=>
 (z7 (K:=kT κ) km_T rel o).mono fun c H1 ⟨β1,h1,x,e1,⟨ec,r1⟩,o1⟩=>by
  subst ec;cases c with
  |true=>rw[Aa rfl]at o1 ⊢;exact⟨F.to β1 h1,r1,o1⟩
  |false=>rw[Ab A2]at o1 ⊢;exact o1 β1 false H1 Ext.refl ⟨rfl,r1⟩
def qq {t u:T3} {rest:List Expr} (ha:PT X a (zQ κ E t)) (hb:PW X (.BoolOp .Or (b::rest) pos) (zQ κ E u)):PW X (.BoolOp .Or (a::b::rest) pos) (zQ κ E (tOr3 t u)):=PWw (MT ha hb) fun σ H Q ⟨F,rel,o⟩=>
 (z7 (K:=kT κ) km_T rel o).mono fun c H1 ⟨β1,h1,x,e1,⟨ec,r1⟩,o1⟩=>by
  subst ec;cases c with
  |true=>rw[Aa rfl]at o1 ⊢;exact o1 β1 true H1 Ext.refl ⟨rfl,r1⟩
  |false=>rw[Ab A2]at o1 ⊢;exact⟨F.to β1 h1,r1,o1⟩
def qw {t:T3} (ha:PT X a (zQ κ E t)):PT X (.UnaryOp .Not a pos) (zQ κ E (tNot3 t)):=PTw (MU ha) fun σ H Q ⟨F,rel,o⟩=>
 (z7 (K:=kT κ) km_T rel o).mono fun c H1 ⟨β1,h1,x,e1,⟨ec,r1⟩,o1⟩=>by
  subst ec;exact o1 β1 _ H1 Ext.refl ⟨rfl,r1⟩
def eAnd (a b:E3):E3:=fun s h=>(tE a s h).bind fun c h1=>if c=true then b s h1 else .ok (.v (.bl false)) h1
def eOr (a b:E3):E3:=fun s h=>(tE a s h).bind fun c h1=>if c=true then .ok (.v (.bl true)) h1 else b s h1
def eNot (a:E3):E3:=fun s h=>(tE a s h).bind fun c h1=>.ok (.v (.bl !c)) h1
def AM {d u:E3} {rest:List Expr} (ha:PE X a (zi κ E d)) (hb:PE X (.BoolOp .And (b::rest) pos) (zi κ E u)):PE X (.BoolOp .And (a::b::rest) pos) (zi κ E (eAnd d u)):=yu (MY ha hb) fun σ H Q ⟨F,rel,o⟩=>by
 refine tOf.mono (G0 (z7 (a:=tE d) (K:=kT κ) zM rel o)) fun x H1 ⟨k,ex,β1,h1,c,e1,⟨ec,r1⟩,o1⟩=>⟨k,ex,?_⟩
 subst ec;cases k with
 |true=>rw[Aa rfl]at o1 ⊢;exact⟨F.to β1 h1,r1,o1⟩
 |false=>rw[Ab A2]at o1 ⊢;exact o1 β1 _ H1 Ext.refl ⟨r1,.bl false⟩
def PH {d:E3} (ha:PE X a (zi κ E d)):PE X (.UnaryOp .Not a pos) (zi κ E (eNot d)):=yu (MZ ha) fun σ H Q ⟨F,rel,o⟩=>by
 refine tOf.mono (G0 (z7 (a:=tE d) (K:=kT κ) zM rel o)) fun x H1 ⟨k,ex,β1,h1,c,e1,⟨ec,r1⟩,o1⟩=>⟨k,ex,?_⟩
 subst ec;exact o1 β1 _ H1 Ext.refl ⟨r1,.bl _⟩
def BM {op} {d:E3} (h:PE X a (zi κ E d)):PE X (.BoolOp op [a] pos) (zi κ E d):=MX h
def eIf (t:T3) (a b:E3):E3:=fun s h=>(t s h).bind fun c h1=>if c=true then a s h1 else b s h1
end
inductive O3 where
 |nx (s:S3) (h:H3)|rt (r:Vl) (h:H3)|bk (s:S3) (h:H3)|ct (s:S3) (h:H3)|ex (x:X3) (h:H3)|no
abbrev D3:=S3->H3->O3
structure SExt (F:Fr) (H:Hp) (F':Fr) (H':Hp):Prop where
 ext:Ext (fun a=>some a∈F.l) F.β H F'.β H'
 lam:∀a,some a∈F'.l->some a∈F.l\/H a=none
 oi:F'.Oi=F.Oi
 tt:F'.T=[]
abbrev NwS (F:Fr) (H:Hp):Addr->Prop:=fun p=>some p∈F.l\/H p=none
def SOut (κ:Kx) (E:XK) (F:Fr) (H:Hp) (D:Ends):O3->Prop
 |.nx s' h'=> ∀F' σ' H',SExt F H F' H'->F'.s=s'->F'.h=h'->Rel κ F' σ' H'->D.nx σ' H'
 |.bk s' h'=> ∀F' σ' H',SExt F H F' H'->F'.s=s'->F'.h=h'->Rel κ F' σ' H'->D.bk σ' H'
 |.ct s' h'=> ∀F' σ' H',SExt F H F' H'->F'.s=s'->F'.h=h'->Rel κ F' σ' H'->D.ct σ' H'
 |.rt r h'=> ∀F' σ' v H',SExt F H F' H'->F'.h=h'->Post κ (NwS F H) F' σ' H' r v->D.rt v H'
 |.ex x h'=> ∀F' H',SExt F H F' H'->RelH κ F'.Oi F'.β h' H'->XOk κ E x F'.β F'.Oi H'
 |.no=>False
def zl (κ:Kx) (E:XK) (d:D3):TS:=fun D σ H=> ∃F,Rel κ F σ H/\F.T=[]/\SOut κ E F H D (d F.s F.h)
section
variable {X:Cx} {κ:Kx} {E:XK} {F F1 F2:Fr} {σ σ':St} {H H1 H2 H':Hp} {Q:VK} {r:R} {p:Addr} {e a b:Expr} {pos:Pos} {i:Nat} {D:Ends}
theorem SExt.refl (ht:F.T=[]):SExt F H F H:=⟨Ext.refl,fun _ h=>.inl h,rfl,ht⟩
theorem SExt.trans (a:SExt F H F1 H1) (b:SExt F1 H1 F2 H2):SExt F H F2 H2 where
 ext:=⟨fun x o h n m=>(by
   obtain⟨h1,n1⟩:=a.ext.keep x o h n m
   refine b.ext.keep x o h1 n1 fun z=>?_
   rcases a.lam x z with q|q
   .exact m q
   .rw[h]at q;cases q),Nat.le_trans a.ext.len b.ext.len,fun i x hi h=>a.ext.bet i x hi (b.ext.bet i x (Az hi a.ext.len) h),fun x o h=>let ⟨o1,h1⟩:=a.ext.there x o h;b.ext.there x o1 h1,Ks a.ext.there (fun i x hi h=>b.ext.bet i x hi h) a.ext.nwb b.ext.nwb⟩
 lam:=fun x h=>by
  rcases b.lam x h with q|q
  .exact a.lam x q
  .cases w:H x with
   |none=>exact .inr rfl
   |some o=>
    obtain⟨o',z⟩:=a.ext.there x o w;rw[q]at z;cases z
 oi:=b.oi.trans a.oi
 tt:=b.tt
def SExt.of0 {β':AO} {h':H3} (ht:F.T=[]) (e:Ext No F.β H β' H'):SExt F H (F.to β' h') H':=
 ⟨⟨fun x o h n _=>e.keep x o h n fun z=>z,e.len,e.bet,e.there,e.nwb⟩,fun _ h=>.inl h,rfl,ht⟩
theorem SOut.move {o:O3} (e:SExt F H F1 H1) (h:SOut κ E F H D o):SOut κ E F1 H1 D o:=by
 cases o with
 |nx s h'=>exact fun F2 σ2 H2 e2=>h F2 σ2 H2 (e.trans e2)
 |bk s h'=>exact fun F2 σ2 H2 e2=>h F2 σ2 H2 (e.trans e2)
 |ct s h'=>exact fun F2 σ2 H2 e2=>h F2 σ2 H2 (e.trans e2)
 |rt r h'=>exact fun F2 σ2 v H2 e2 eh q=>h F2 σ2 v H2 (e.trans e2) eh (q.imp fun p hp=>hp.elim (e.lam p) fun z=>.inr (e.ext.nw p z))
 |ex x h'=>exact fun F2 H2 e2=>h F2 H2 (e.trans e2)
 |no=>exact h
def qo {st:Stmt} {t t':TS} (h:PS X st t) (w:∀D σ H,t' D σ H->t D σ H):PS X st t':=fun pins s σ H D I q=>h pins s σ H D I (w D σ H q)
def PSsw {st:List Stmt} {t t':TS} (h:yk X st t) (w:∀D σ H,t' D σ H->t D σ H):yk X st t':=fun pins s σ H D I q=>h pins s σ H D I (w D σ H q)
def sSkip:D3:=fun s h=>.nx s h
noncomputable def sSeq (a b:D3):D3:=fun s h=>match a s h with
 |.nx s1 h1=>b s1 h1
 |o=>o
def yt:yk X [] (zl κ E sSkip):=PSsw Nb fun D σ H ⟨F,rel,ht,o⟩=>o F σ H (.refl ht) rfl rfl rel
def zA {st:Stmt} {rest:List Stmt} {da db:D3} (h1:PS X st (zl κ E da)) (h2:yk X rest (zl κ E db)):yk X (st::rest) (zl κ E (sSeq da db)):=PSsw (DM h1 h2) fun D σ H ⟨F,rel,ht,o⟩=>by
 refine⟨F,rel,ht,?_⟩
 unfold sSeq at o;cases q:da F.s F.h with
 |nx s1 h1=>
  rw[q]at o;intro F' σ' H' e es eh r'
  refine⟨F',r',e.tt,?_⟩
  rw[es,eh];exact SOut.move e o
 |rt r h=>rw[q]at o;exact o
 |bk s h=>rw[q]at o;exact o
 |ct s h=>rw[q]at o;exact o
 |ex x h=>rw[q]at o;exact o
 |no=>rw[q]at o;exact o
def zr {st:Stmt} {da:D3} (h1:PS X st (zl κ E da)):yk X [st] (zl κ E da):=CK h1
def qL {α:Type} {l:List α} {i j:Nat} {x y:α} (h:(l.set i x)[j]? =some y):(i=j/\y=x)\/(i≠j/\l[j]? =some y):=by
 rw[Co]at h
 by_cases e:i=j
 .rw[Aa e]at h
  by_cases e2:i<l.length
  .rw[Aa e2]at h;exact .inl ⟨e,(Option.some.inj h).symm⟩
  .rw[Ab e2]at h;cases h
 .rw[Ab e]at h;exact .inr ⟨e,h⟩
def qO {l:AO} {i:Nat} {x:Option Addr} {a:Addr} (h:some a∈l.set i x):(x=some a)\/(some a∈l/\∃j,j≠i/\l[j]? =some (some a)):=by
 obtain⟨j,hj⟩:=Cw h
 rcases qL hj with ⟨_,e⟩|⟨n,e⟩
 .exact .inl e.symm
 .exact .inr ⟨Am e,j,fun z=>n z.symm,e⟩
noncomputable abbrev Fr.setV (F:Fr) (i:Nat) (x:V3):Fr:={F with s:=F.s.set i (some (.v x)),l:=F.l.set i none}
noncomputable abbrev Fr.setM (F:Fr) (i:Nat) (c:C3) (p:Addr):Fr:={F with s:=F.s.set i (some (.m c)),l:=F.l.set i (some p)}
noncomputable abbrev Fr.setN (F:Fr) (i:Nat):Fr:={F with s:=F.s.set i none,l:=F.l.set i none}
def EB {F:Fr} {i:Nat} {s:S3} {a:Addr} (h:({F with s:=s,l:=F.l.set i none}:Fr).O a):F.O a:=by
 rcases h with h|h|h
 .exact .inl h
 .rcases qO h with z|z
  .cases z
  .exact .inr (.inl z.1)
 .exact .inr (.inr h)
def Rel.setGen {F:Fr} {i:Nat} {s:S3} {σ':St} (rel:Rel κ F σ H) (hsl:s.length=F.s.length) (hσ:σ'.length=σ.length)
  (hslot:∀(j:Nat) x,s[j]? =some (some x)->(∃v,σ'[j]? =some (some v)/\SlotR κ ({F with s:=s,l:=F.l.set i none}:Fr) H j x v)):Rel κ {F with s:=s,l:=F.l.set i none} σ' H where
 heap:=rel.heap.sub fun a ha=>EB ha
 slen:=by show s.length=_;rw[hsl,hσ];exact rel.slen
 llen:=by show (F.l.set i none).length=s.length;rw[Bb,hsl];exact rel.llen
 linj:=fun j k a h1 h2=>by
  rcases qL h1 with ⟨_,z⟩|⟨_,z1⟩
  .cases z
  .rcases qL h2 with ⟨_,z⟩|⟨_,z2⟩
   .cases z
   .exact rel.linj j k a z1 z2
 lt:=fun a ha=>by
  rcases qO ha with z|z
  .cases z
  .exact rel.lt a z.1
 lo:=fun a ha=>by
  rcases qO ha with z|z
  .cases z
  .exact rel.lo a z.1
 to:=rel.to
 tn:=rel.tn
 slot:=hslot
def Rel.slotNe {F:Fr} {i j:Nat} {s:S3} {x:Vl} {v:V} (hn:i≠j) (q:SlotR κ F H j x v):SlotR κ ({F with s:=s,l:=F.l.set i none}:Fr) H j x v:=by
 cases x with
 |v x=>exact Rep.sub (fun a ha=>EB ha) q
 |m c=>
  obtain⟨a,h1,h2,h3⟩:=q
  refine⟨a,?_,h2,h3.sub fun a ha=>EB ha⟩
  show (F.l.set i none)[j]? =_;rw[Co,Ab hn];exact h1
theorem Rel.setV {x:V3} {v:V} (rel:Rel κ F σ H) (hr:Rep κ F.β F.O H x v) (hi:i<F.s.length):Rel κ (F.setV i x) (σ.set i (some v)) H:=by
 refine rel.setGen (by rw[Bb]) (by rw[Bb]) fun j y hj=>?_
 rcases qL hj with ⟨e,z⟩|⟨n,z⟩
 .subst e;cases z
  refine⟨v,?_,Rep.sub (fun a ha=>EB ha) hr⟩
  rw[Co,Aa rfl,Aa (by rw[<-rel.slen];exact hi)]
 .obtain⟨w,h1,h2⟩:=rel.slot j y z
  exact⟨w,by rw[Co,Ab n];exact h1,Rel.slotNe n h2⟩
theorem Rel.setN {i:Nat} (rel:Rel κ F σ H):Rel κ (F.setN i) σ H:=by
 refine rel.setGen (by rw[Bb]) rfl fun j y hj=>?_
 rcases qL hj with ⟨e,z⟩|⟨n,z⟩
 .cases z
 .obtain⟨w,h1,h2⟩:=rel.slot j y z
  exact⟨w,h1,Rel.slotNe n h2⟩
def G4 {F:Fr} {i:Nat} {s:S3} {a p:Addr} (h:({F with s:=s,l:=F.l.set i (some p)}:Fr).O a):(F.with p).O a:=by
 rcases h with h|h|h
 .exact .inl (A1 _ h)
 .rcases qO h with z|z
  .cases z;exact .inl Ax
  .exact .inr (.inl z.1)
 .exact .inr (.inr h)
theorem Rel.setM {c:C3} (rel:Rel κ (F.with p) σ H) (hr:CellR κ F.β (F.with p).O H c p) (hi:i<F.s.length):Rel κ (F.setM i c p) (σ.set i (some (.ref p))) H where
 heap:=rel.heap.sub fun a ha=>G4 ha
 slen:=by show (F.s.set i _).length=_;rw[Bb,Bb];exact rel.slen
 llen:=by show (F.l.set i _).length=(F.s.set i _).length;rw[Bb,Bb];exact rel.llen
 linj:=fun j k a h1 h2=>by
  rcases qL h1 with ⟨e1,z1⟩|⟨n1,z1⟩<;>rcases qL h2 with ⟨e2,z2⟩|⟨n2,z2⟩
  .lia
  .cases z1;exact absurd Ax (rel.lt p (Am z2))
  .cases z2;exact absurd Ax (rel.lt p (Am z1))
  .exact rel.linj j k a z1 z2
 lt:=fun a ha z=>by
  rcases qO ha with q|q
  .cases q;exact (B1.mp rel.tn).1 z
  .exact rel.lt a q.1 (A1 _ z)
 lo:=fun a ha=>by
  rcases qO ha with q|q
  .cases q;exact rel.to p Ax
  .exact rel.lo a q.1
 to:=fun a ha=>rel.to a (A1 _ ha)
 tn:=(B1.mp rel.tn).2
 slot:=fun j y hj=>by
  rcases qL hj with ⟨e,z⟩|⟨n,z⟩
  .subst e;cases z
   refine⟨.ref p,?_,p,?_,rfl,hr.sub fun a ha=>G4 ha⟩
   .rw[Co,Aa rfl,Aa (by rw[<-rel.slen];exact hi)]
   .show (F.l.set i _)[i]? =_
    rw[Co,Aa rfl,Aa (by have h:=rel.llen;show i<F.l.length;rw[show F.l.length=F.s.length from h];exact hi)]
  .obtain⟨w,h1,h2⟩:=rel.slot j y z
   refine⟨w,by rw[Co,Ab n];exact h1,?_⟩
   cases y with
   |v x=>exact Rep.sub (fun a ha=>G4 ha) h2
   |m c=>
    obtain⟨a,q1,q2,q3⟩:=h2
    refine⟨a,?_,q2,q3.sub fun a ha=>G4 ha⟩
    show (F.l.set i _)[j]? =_;rw[Co,Ab n];exact q1
def SExt.setN {s:S3} (ht:F.T=[]):SExt F H ({F with s:=s,l:=F.l.set i none}:Fr) H:=
 ⟨Ext.refl,fun a h=>by
  rcases qO h with z|z
  .cases z
  .exact .inl z.1,rfl,ht⟩
noncomputable def Res.bindS {α:Type} (r:Res α) (k:α->H3->O3):O3:=match r with
 |.ok r h=>k r h
 |.ex x h=>.ex x h
 |.no=>.no
theorem bindS {α ω:Type} {K:Kd α ω} {a:S3->H3->Res α} {k:α->H3->O3} (rel:Rel κ F σ H) (ht:F.T=[]) (o:SOut κ E F H D ((a F.s F.h).bindS k)):
  tOf κ E K a σ H (fun w H1=> ∃β1 h1 x,Ext No F.β H β1 H1/\K H (F.to β1 h1) σ H1 x w/\SOut κ E F H D (k x h1)):=by
 refine⟨F,rel,?_⟩
 cases q:a F.s F.h with
 |no=>rw[q]at o;exact o
 |ex x h1=>rw[q]at o;exact fun β' H' e r=>o (F.to β' h1) H' (SExt.of0 ht e) r
 |ok r h1=>rw[q]at o;exact fun β1 v H1 e p=>⟨β1,h1,r,e,p,o⟩
def sSet (i:Nat) (e:E3):D3:=fun s h=>(e s h).bindS fun r h1=>if i<s.length then .nx (s.set i (some r)) h1 else .no
def Ku {d:E3} (h:zl κ E (sSet i d) D σ H):zi κ E d σ H (fun v H1=>D.nx (σ.set i (some v)) H1):=by
 obtain⟨F,rel,ht,o⟩:=h
 refine (bindS (K:=kE κ) rel ht o).mono fun v H1 ⟨β1,h1,r,e1,p1,o⟩=>?_
 by_cases hi:i<F.s.length
 .rw[Aa hi]at o
  cases r with
  |v x=>
   obtain⟨r1,r2⟩:=p1;exact o ((F.to β1 h1).setV i x) _ H1 ((SExt.of0 (h':=h1) ht e1).trans (SExt.setN ht)) rfl rfl (r1.setV r2 hi)
  |m c=>
   obtain⟨p,rfl,r1,r2,hp⟩:=p1
   refine o ((F.to β1 h1).setM i c p) _ H1 ?_ rfl rfl (r1.setM r2 hi)
   exact⟨(SExt.of0 (h':=h1) ht e1).ext,fun a ha=>by
    rcases qO ha with z|z
    .cases z;exact .inr hp
    .exact .inl z.1,rfl,ht⟩
 .rw[Ab hi]at o;exact o.elim
def ye {x:Str} {pos':Pos} {d:E3} (hN:X.N.Nodup) (hi:X.N[i]? =some x) (hx:Loc X.env.scope x) (he:PE X e (zi κ E d)) (hs:swapsWith e (some (.Name x pos')) pos.line X.env=pure false:=by rfl)
 (hf:X.fn x=true\/X.env.scope.names.lookup x=some .local:=by first|exact .inl rfl|exact .inr rfl|assumption):PS X (.Assign [.Name x pos'] e pos) (zl κ E (sSet i d)):=qo (Nf hN hi hx he hs hf) fun D σ H h=>Ku h
def sExp (e:E3):D3:=fun s h=>(e s h).bindS fun _ h1=>.nx s h1
def G5 {d:E3} (he:PE X e (zi κ E d)) (hs:swapsWith e none pos.line X.env=pure false:=by rfl):PS X (.Expr e pos) (zl κ E (sExp d)):=qo (AS he hs) fun D σ H ⟨F,rel,ht,o⟩=>
 (bindS (K:=kE κ) rel ht o).mono fun v H1 ⟨β1,h1,r,e1,p1,o⟩=>by
  have r1:Rel κ (F.to β1 h1) σ H1:=by
   cases r with
   |v x=>exact p1.1
   |m c=>obtain⟨p,_,r1,_⟩:=p1;exact Rel.drop r1
  exact o (F.to β1 h1) σ H1 (SExt.of0 ht e1) rfl rfl r1
def sRet (e:E3):D3:=fun s h=>(e s h).bindS fun r h1=>.rt r h1
def zS {d:E3} (he:PE X e (zi κ E d)):PS X (.Return (some e) pos) (zl κ E (sRet d)):=qo (Jw he) fun D σ H ⟨F,rel,ht,o⟩=>
 (bindS (K:=kE κ) rel ht o).mono fun v H1 ⟨β1,h1,r,e1,p1,o⟩=>o (F.to β1 h1) σ v H1 (SExt.of0 ht e1) rfl (p1.imp fun p hp=>.inr hp)
noncomputable def sRetN:D3:=fun _ h=>.rt (.v .non) h
def Rel.take {c:C3} (rel:Rel κ F σ H) (hl:F.l[i]? =some (some p)):Rel κ ((F.setN i).with p) σ H:=by
 have r1:=rel.setN (i:=i);have ho:∀a,((F.setN i).with p).O a->F.O a:=fun a ha=>by
  rcases ha with z|z
  .rcases Ag.mp z with z|z
   .subst z;exact .inr (.inl (Am hl))
   .exact .inl z
  .rcases z with z|z
   .rcases qO z with w|w
    .cases w
    .exact .inr (.inl w.1)
   .exact .inr (.inr z)
 have hb:∀a,some a∈F.l.set i none->a≠p:=fun a ha z=>by
  subst z
  rcases qO ha with w|⟨_,j,hj,w⟩
  .cases w
  .exact hj (rel.linj j i a w hl)
 refine⟨rel.heap.sub ho,r1.slen,r1.llen,r1.linj,fun a ha z=>?_,r1.lo,fun a ha z=>?_,B1.mpr ⟨fun z=>rel.lt p (Am hl) z,rel.tn⟩,fun j y hj=>?_⟩
 .rcases Ag.mp z with z|z
  .exact hb a ha z
  .exact r1.lt a ha z
 .rcases Ag.mp ha with h|h
  .subst h;exact rel.lo a (Am hl) z
  .exact rel.to a h z
 .rcases qL hj with ⟨_,z⟩|⟨n,z⟩
  .cases z
  .obtain⟨w,h1,h2⟩:=rel.slot j y z
   refine⟨w,h1,?_⟩
   cases y with
   |v x=>exact Rep.sub ho h2
   |m c=>
    obtain⟨a,q1,q2,q3⟩:=h2
    refine⟨a,?_,q2,q3.sub ho⟩
    show (F.l.set i none)[j]? =_;rw[Co,Ab n];exact q1
def PJ {a:Addr} (hl:F.l[i]? =some (some p)) (ha:((F.setN i).with p).O a):F.O a:=by
 rcases ha with z|z
 .rcases Ag.mp z with z|z
  .subst z;exact .inr (.inl (Am hl))
  .exact .inl z
 .rcases z with z|z
  .rcases qO z with w|w
   .cases w
   .exact .inr (.inl w.1)
  .exact .inr (.inr z)
noncomputable def sRetS (i:Nat):D3:=fun s h=>match s[i]? with
 |some (some r)=>.rt r h
 |_=>.no
def G6 (hv:PE X e (yn i)):PS X (.Return (some e) pos) (zl κ E (sRetS i)):=qo (Jw hv) fun D σ H ⟨F,rel,ht,o⟩=>by
 unfold sRetS at o;cases q:F.s[i]? with
 |none=>rw[q]at o;exact o.elim
 |some z=>
  rw[q]at o
  match z,q,o with
  |none,q,o=>exact o.elim
  |some (.v x),q,o=>
   obtain⟨v,h1,h2⟩:=rel.slot i _ q;exact⟨v,h1,o F σ v H (.refl ht) rfl ⟨rel,h2⟩⟩
  |some (.m c),q,o=>
   obtain⟨v,h1,a,h2,h3,h4⟩:=rel.slot i _ q;subst h3;exact⟨_,h1,o (F.setN i) σ (.ref a) H (SExt.setN ht) rfl ⟨a,rfl,Rel.take (c:=c) rel h2,h4.sub fun b hb=>PJ h2 hb,.inl (Am h2)⟩⟩
def sFz (i:Nat):D3:=fun s h=>match s[i]? with
 |some (some (.m c))=>match c.fz with
  |some x=>.nx (s.set i (some (.v x))) h
  |none=>.no
 |_=>.nx s h
def PK {d:D3} (h:zl κ E (sSeq (sFz i) d) D σ H):zl κ E d D σ H:=by
 obtain⟨F,rel,ht,o⟩:=h;unfold sSeq sFz at o;have same:(match (F.s[i]? :Option (Option Vl)) with|some (some (.m c))=>False|_=>True)->SOut κ E F H D (d F.s F.h)->zl κ E d D σ H:=fun _ o=>⟨F,rel,ht,o⟩
 cases q:F.s[i]? with
 |none=>rw[q]at o same;exact same trivial o
 |some z=>
  rw[q]at o same
  match z,q,o,same with
  |none,q,o,same=>exact same trivial o
  |some (.v x),q,o,same=>exact same trivial o
  |some (.m c),q,o,same=>
   cases z:c.fz with
   |none=>simp only[z]at o;exact o.elim
   |some x=>
    simp only[z]at o;obtain⟨v,h1,a,h2,h3,h4⟩:=rel.slot i _ q;subst h3;have hi:i<F.s.length:=(Aq.mp q).1;have rt:=Rel.take (c:=c) rel h2;have rep:Rep κ F.β (F.setN i).O H x (.ref a):=(h4.sub (O':=(F.setN i).O) fun b hb=>EB hb).fz z rt.offp rt.apart
    have r2:=(rel.setN (i:=i)).setV (i:=i) (x:=x) (v:= .ref a) rep (by show i<(F.s.set i none).length;rw[Bb];exact hi)
    have e1:(F.setN i).setV i x=F.setV i x:=by
     show ({F with s:=(F.s.set i none).set i _,l:=(F.l.set i none).set i none}:Fr)={F with s:=F.s.set i _,l:=F.l.set i none}
     rw[List.set_set,List.set_set]
    have e2:σ.set i (some (.ref a))=σ:=by
     apply List.ext_getElem?;intro j
     rw[Co]
     by_cases hj:i=j
     .subst hj;rw[Aa rfl,Aa (by rw[<-rel.slen];exact hi),h1]
     .rw[Ab hj]
    rw[e1,e2]at r2;exact⟨F.setV i x,r2,ht,SOut.move (SExt.setN ht) o⟩
def qi {sts:List Stmt} {d:D3} (i:Nat) (h:yk X sts (zl κ E d)):yk X sts (zl κ E (sSeq (sFz i) d)):=PSsw h fun D σ H q=>PK q
def sIf (t:T3) (a b:D3):D3:=fun s h=>(t s h).bindS fun c h1=>if c=true then a s h1 else b s h1
def yc {c:Expr} {sa sb:List Stmt} {t:T3} {da db:D3} (hc:PT X c (zQ κ E t)) (ha:yk X sa (zl κ E da)) (hb:yk X sb (zl κ E db)):PS X (.If c sa sb pos) (zl κ E (sIf t da db)):=qo (Nc hc ha hb) fun D σ H ⟨F,rel,ht,o⟩=>
 (bindS (K:=kT κ) rel ht o).mono fun c H1 ⟨β1,h1,x,e1,⟨ec,r1⟩,o1⟩=>by
  subst ec;have mv:=SExt.of0 (h':=h1) ht e1;cases c with
  |true=>rw[Aa rfl]at o1 ⊢;exact⟨F.to β1 h1,r1,ht,SOut.move mv o1⟩
  |false=>rw[Ab A2]at o1 ⊢;exact⟨F.to β1 h1,r1,ht,SOut.move mv o1⟩
def sNever:D3:=fun _ _=>.no
abbrev G3:=V3->S3->Option S3
abbrev Gs3:=List V3->S3->Option S3
noncomputable def gN (i:Nat):G3:=fun x s=>if i<s.length then some (s.set i (some (.v x))) else none
def gsNil:Gs3:=fun xs s=>match xs with
 | []=>some s
 |_=>none
noncomputable def gsCons (g:G3) (gs:Gs3):Gs3:=fun xs s=>match xs with
 |x::r=>(g x s).bind fun s1=>gs r s1
 | []=>none
noncomputable def gT (gs:Gs3):G3:=fun x s=>match x with
 |.tup xs=>gs xs s
 |_=>none
noncomputable def gL (gs:Gs3):G3:=fun x s=>match x with
 |.lst xs=>gs xs s
 |_=>none
def yF (κ:Kx) (g:G3):TG:=fun v σ H Q=> ∃F x s',Rel κ F σ H/\F.T=[]/\Rep κ F.β F.O H x v/\g x F.s=some s'/\∀F' σ',SExt F H F' H->F'.β=F.β->F'.s=s'->F'.h=F.h->Rel κ F' σ' H->Q σ' H
def EC (κ:Kx) (g:Gs3):qz:=fun vs σ H Q=> ∃F xs s',Rel κ F σ H/\F.T=[]/\Reps κ F.β F.O H xs vs/\g xs F.s=some s'/\∀F' σ',SExt F H F' H->F'.β=F.β->F'.s=s'->F'.h=F.h->Rel κ F' σ' H->Q σ' H
def PGw {tg:Expr} {t t':TG} (h:PG X tg t) (w:∀v σ H Q,t' v σ H Q->t v σ H Q):PG X tg t':=fun pins s σ H v u Q I r q=>h pins s σ H v u Q I r (w v σ H Q q)
def PGsw {tg:List Expr} {t t':qz} (h:qA X tg t) (w:∀v σ H Q,t' v σ H Q->t v σ H Q):qA X tg t':=fun pins s σ H v u Q I r q=>h pins s σ H v u Q I r (w v σ H Q q)
def Kv {a:Addr} {o:HO} (e:SExt F H F' H') (ha:H a=some o) (n: ¬F.O a): ¬F'.O a:=fun z=>by
 rcases z with z|z|z
 .rw[e.tt]at z;cases z
 .rcases e.lam a z with w|w
  .exact n (.inr (.inl w))
  .rw[ha]at w;cases w
 .rw[e.oi]at z;exact n (.inr (.inr z))
def Rep.sext {x:V3} {v:V} (e:SExt F H F' H') (r:Rep κ F.β F.O H x v):Rep κ F'.β F'.O H' x v:=r.ext e.ext (fun a h=>.inr (.inl h)) fun a o ha n=>Kv e ha n
def Reps.sext {x:List V3} {v:List V} (e:SExt F H F' H') (r:Reps κ F.β F.O H x v):Reps κ F'.β F'.O H' x v:=r.ext e.ext (fun a h=>.inr (.inl h)) fun a o ha n=>Kv e ha n
def yJ {tg:Expr} (h:PG X tg (DN i)):PG X tg (yF κ (gN i)):=PGw h fun v σ H Q ⟨F,x,s',rel,ht,r,e,k⟩=>by
 unfold gN at e
 by_cases hi:i<F.s.length
 .rw[Aa hi]at e;cases e
  exact k (F.setV i x) _ (SExt.setN ht) rfl rfl rfl (rel.setV r hi)
 .rw[Ab hi]at e;cases e
def ED:qA X [] (EC κ gsNil):=PGsw Nd fun v σ H Q ⟨F,xs,s',rel,ht,r,e,k⟩=>by
 cases r with
 |nil=>cases e;exact⟨rfl,k F σ (.refl ht) rfl rfl rfl rel⟩
 |cons _ _=>cases e
theorem qG {es:List Expr} {g:G3} {gs:Gs3} (h1:PG X e (yF κ g)) (h2:qA X es (EC κ gs)) (hh:∀{t:TG} {u:qz},PG X e t->qA X es u->qA X (e::es) (Jx t u)):qA X (e::es) (EC κ (gsCons g gs)):=PGsw (hh h1 h2) fun v σ H Q ⟨F,xs,s',rel,ht,r,e,k⟩=>by
 cases r with
 |nil=>cases e
 | @cons x y xs ys a b=>
  cases q:g x F.s with
  |none=>simp only[gsCons,q]at e;cases e
  |some s1=>
   simp only[gsCons,q]at e
   refine⟨y,ys,rfl,F,x,s1,rel,ht,a,q,fun F1 σ1 e1 b1 s1' h1 r1=>?_⟩
   have e:gs xs s1=some s':=e
   refine⟨F1,xs,s',r1,e1.tt,b.sext e1,by rw[s1'];exact e,fun F2 σ2 e2 b2 s2' h2 r2=>?_⟩
   exact k F2 σ2 (e1.trans e2) (b2.trans b1) s2' (h2.trans h1) r2
def G7 {tg:Expr} {gs:Gs3} {n:Nat} (h:PG X tg (gTup X.K n (EC κ gs))) (hn:∀xs s s',gs xs s=some s'->xs.length=n):PG X tg (yF κ (gT gs)):=PGw h fun v σ H Q ⟨F,x,s',rel,ht,r,e,k⟩=>by
 unfold gT at e;cases x<;>first|cases e|skip
 cases r with
 |tup h1 h2 h3 h4=>exact⟨_,_,rfl,.of h1,by rw[<-h4.length];exact hn _ _ _ e,F,_,s',rel,ht,h4,e,k⟩
def PL {tg:Expr} {gs:Gs3} {n:Nat} (h:PG X tg (gLst X.K n (EC κ gs))) (hn:∀xs s s',gs xs s=some s'->xs.length=n):PG X tg (yF κ (gL gs)):=PGw h fun v σ H Q ⟨F,x,s',rel,ht,r,e,k⟩=>by
 unfold gL at e;cases x<;>first|cases e|skip
 cases r with
 |lst h1 h2 h3 h4=>exact⟨_,_,rfl,.of h1,by rw[<-h4.length];exact hn _ _ _ e,F,_,s',rel,ht,h4,e,k⟩
def sAsg (g:G3) (e:E3):D3:=fun s h=>(e s h).bindS fun r h1=>match r.fz with
 |some x=>match g x s with
  |some s1=>.nx s1 h1
  |none=>.no
 |none=>.no
def PM {d:E3} {g:G3} (h:zl κ E (sAsg g d) D σ H):tAsg (zi κ E d) (yF κ g) D σ H:=by
 obtain⟨F,rel,ht,o⟩:=h
 refine (bindS (K:=kE κ) rel ht o).mono fun v H1 ⟨β1,h1,r,e1,p1,o⟩=>?_
 cases z:r.fz with
 |none=>simp only[z]at o;exact o.elim
 |some x=>
  simp only[z]at o;cases w:g x F.s with
  |none=>rw[w]at o;exact o.elim
  |some s1=>
   rw[w]at o;obtain⟨r1,r2⟩:=Post.fz p1 z;exact⟨F.to β1 h1,x,s1,r1,ht,r2,w,fun F' σ' e' b' s' h' r'=>o F' σ' H1 ((SExt.of0 (h':=h1) ht e1).trans e') s' h' r'⟩
def PN {tg:Expr} {d:E3} {g:G3} (he:PE X e (zi κ E d)) (hg:PG X tg (yF κ g)) (hh:∀{te:TE} {g:TG},PE X e te->PG X tg g->PS X (.Assign [tg] e pos) (tAsg te g)):PS X (.Assign [tg] e pos) (zl κ E (sAsg g d)):=qo (hh he hg) fun D σ H h=>PM h
end
structure It3 where
 its:List V3
 xs:List V3
 ok:H3->Prop
def IR (κ:Kx) (it:It3) (vs:List V) (J:It):Prop:=∀(F:Fr) (σ:St) (H:Hp),Rel κ F σ H->Reps κ F.β F.O H it.its vs->it.ok F.h->∀i:Nat,
 (i<it.xs.length->J.go i H/\∀x H',J.yld i H x H'->∃x3,it.xs[i]? =some x3/\Ext No F.β H F.β H'/\Rel κ F σ H'/\Rep κ F.β F.O H' x3 x)/\(it.xs.length<=i->J.stop i H)
abbrev I3:=S3->H3->Res It3
def kI (κ:Kx):Kd It3 It:=fun _ F σ H' it J=>Rel κ F σ H'/\∃vs,Reps κ F.β F.O H' it.its vs/\IR κ it vs J
abbrev tiOf (κ:Kx) (E:XK) (d:I3):TI:=tOf κ E (kI κ) d
open Classical in
def zR (ok:H3->Prop) (g:G3) (b:D3):List V3->S3->H3->O3
 | [],s,h=>if ok h then .nx s h else .no
 |x::r,s,h=>if ok h then match g x s with
  |none=>.no
  |some s1=>match b s1 h with
   |.nx s2 h2=>zR ok g b r s2 h2
   |.ct s2 h2=>zR ok g b r s2 h2
   |.bk s2 h2=>.nx s2 h2
   |o=>o
  else .no
def zI (it:I3) (g:G3) (b:D3):D3:=fun s h=>(it s h).bindS fun I h1=>zR I.ok g b I.xs s h1
open Classical in
section
variable {X:Cx} {κ:Kx} {E:XK} {F F1 F2 F':Fr} {σ σ':St} {H H1 H2 H':Hp} {Q:VK} {p:Addr} {e a b:Expr} {pos:Pos} {i:Nat} {D:Ends}
def km_I:AX (kI κ):=fun _ _ _ _ _ _ _ _ _ _ _ h=>h
theorem PP {it:I3} {g:G3} {b:D3} (h:zl κ E (zI it g b) D σ H):tFor (tiOf κ E it) (yF κ g) (zl κ E b) D σ H:=by
 obtain⟨F,rel,ht,o⟩:=h
 refine (bindS (K:=kI κ) rel ht o).mono fun J H1 ⟨β1,h1,I,e1,⟨r1,vs,rv,ir⟩,o1⟩=>?_
 refine⟨fun i m σ H=>m=I.xs.length-i/\i<=I.xs.length/\∃Fk,Rel κ Fk σ H/\Fk.T=[]/\Reps κ Fk.β Fk.O H I.its vs/\SOut κ E Fk H D (zR I.ok g b (I.xs.drop i) Fk.s Fk.h),⟨_,rfl,B9 _,F.to β1 h1,r1,ht,rv,SOut.move (SExt.of0 (h':=h1) ht e1) o1⟩,?_⟩
 rintro i m σ' H' ⟨rfl,hi,Fk,rk,tk,vk,ok⟩
 by_cases hok:I.ok Fk.h
 case neg=>
  exfalso
  cases q:I.xs.drop i with
  |nil=>rw[q]at ok;unfold zR at ok;rw[Ab hok]at ok;exact ok
  |cons x r=>rw[q]at ok;unfold zR at ok;rw[Ab hok]at ok;exact ok
 obtain⟨i1,i2⟩:=ir Fk σ' H' rk vk hok i
 by_cases hlt:i<I.xs.length
 .obtain⟨go,yl⟩:=i1 hlt
  refine .inr ⟨go,fun σ2 H2=> ∃F2,Rel κ F2 σ2 H2/\F2.T=[]/\Reps κ F2.β F2.O H2 I.its vs/\SOut κ E F2 H2 D (zR I.ok g b (I.xs.drop (i+1)) F2.s F2.h),fun σ2 H2 n2=>⟨_,by lia,rfl,hlt,n2⟩,fun x H'' y=>?_⟩
  obtain⟨x3,ex,ey,ry,rp⟩:=yl x H'' y;have hd:I.xs.drop i=x3::I.xs.drop (i+1):=by
   rw[Ef hlt]
   congr 1
   rw[z0 hlt]at ex;exact Option.some.inj ex
  rw[hd]at ok;have ok:=SOut.move (SExt.of0 (h':=Fk.h) tk ey) ok;unfold zR at ok;rw[Aa hok]at ok;cases w:g x3 Fk.s with
  |none=>simp only[w]at ok;exact ok.elim
  |some s1=>
   simp only[w]at ok
   refine⟨Fk,x3,s1,ry,tk,rp,w,fun F3 σ3 e3 b3 s3 h3 r3=>?_⟩
   refine⟨F3,r3,e3.tt,?_⟩
   rw[s3,h3];have ok:=SOut.move e3 ok;have ev:Reps κ F3.β F3.O H'' I.its vs:=(vk.ext0 ey).sext e3;cases q:b s1 Fk.h with
   |nx s2 h2=>simp only[q]at ok;exact fun F4 σ4 H4 e4 s4 h4 r4=>⟨F4,r4,e4.tt,ev.sext e4,by rw[s4,h4];exact SOut.move e4 ok⟩
   |ct s2 h2=>simp only[q]at ok;exact fun F4 σ4 H4 e4 s4 h4 r4=>⟨F4,r4,e4.tt,ev.sext e4,by rw[s4,h4];exact SOut.move e4 ok⟩
   |bk s2 h2=>simp only[q]at ok;exact ok
   |rt r h2=>simp only[q]at ok;exact ok
   |ex x h2=>simp only[q]at ok;exact ok
   |no=>simp only[q]at ok;exact ok
 .have hi:i=I.xs.length:=by lia
  subst hi;rw[Cu]at ok;unfold zR at ok;rw[Aa hok]at ok;exact .inl ⟨i2 (Nat.le_refl _),ok Fk σ' H' (.refl tk) rfl rfl rk⟩
def CP {tg iter:Expr} {body:List Stmt} {it:I3} {g:G3} {b:D3} (hp:PassesOwn (model X.prog X.w) X.A X.env X.xe) (hc:X.calm=true) (hi:PI X tg iter (tiOf κ E it)) (hg:PG X tg (yF κ g)) (hb:yk X body (zl κ E b))
 (hs:∀x,foldedSetIterable iter X.env x=pure x:=by intro _;rfl):PS X (.For tg iter body [] pos) (zl κ E (zI it g b)):=qo (Np hp hc hi hg hb hs) fun D σ H h=>PP h
noncomputable def y9 (h:H3):V3->Option (List V3×(H3->Prop))
 |.lst xs=>some (xs,fun _=>True)
 |.scr ns=>some (ns.map .int,fun _=>True)
 |.loc n=>match h[n]? with
  |some (.lst xs)=>some (xs,fun h=>h[n]? =some (.lst xs))
  |_=>none
 |_=>none
def PQ {F:Fr} {σ:St} {H:Hp} {x:V3} {xs:List V3} {v:V} (rel:Rel κ F σ H) (r:Rep κ F.β F.O H x v) (e:rdl F.s F.h (.x x)=some xs):∃a ys,v=.ref a/\SqL κ.K H a ys/\Reps κ F.β F.O H xs ys:=AK (f:= .x x) rel r e
def EE {h:H3} {x:V3} {xs:List V3} {ok:H3->Prop} (e:y9 h x=some (xs,ok)):ok h/\∀s h',ok h'->rdl s h' (.x x)=some xs:=by
 cases x<;>simp[y9]at e
 case lst zs=>obtain⟨rfl,rfl⟩:=e;exact⟨trivial,fun _ _ _=>rfl⟩
 case scr ns=>obtain⟨rfl,rfl⟩:=e;exact⟨trivial,fun _ _ _=>rfl⟩
 case loc n=>
  cases q:h[n]? with
  |none=>rw[q]at e;cases e
  |some c=>
   rw[q]at e;cases c<;>simp at e
   obtain⟨rfl,rfl⟩:=e;exact⟨q,fun s h' hh=>by simp only[rdl,hh]⟩
def G8 {F:Fr} {σ:St} {H:Hp} {h:H3} {x:V3} {xs:List V3} {ok:H3->Prop} {v:V} (e:y9 h x=some (xs,ok)) (rel:Rel κ F σ H) (r:Rep κ F.β F.O H x v) (hk:ok F.h):∃a ys,v=.ref a/\SqL κ.K H a ys/\Reps κ F.β F.O H xs ys:=PQ rel r ((EE e).2 _ _ hk)
def PIw {tg iter:Expr} {t t':TI} (h:PI X tg iter t) (w:∀σ H R,t' σ H R->t σ H R):PI X tg iter t':=fun pins s σ H R I q=>h pins s σ H R I (w σ H R q)
def iL (p:P3):I3:=fun s h=>(p s h).bind fun f h1=>match f with
 |.x x=>match y9 h1 x with
  |some (xs,ok)=>.ok ⟨[x],xs,ok⟩ h1
  |none=>.no
 |_=>.no
def BN {tg l:Expr} {d:P3} (hK:X.K=κ.K) (hl:PE X l (zt κ E d)):PI X tg l (tiOf κ E (iL d)):=PIw (Nj hl) fun σ H R ⟨F,rel,o⟩=>
 (z7 (K:=kP κ) km_I rel o).mono fun v H1 ⟨β1,h1,f,e1,⟨r1,rf⟩,o1⟩=>by
  rw[hK]
  match f,rf,o1 with
  |.s _,rf,o1=>exact o1.elim
  |.x x,rf,o1=>
   cases q:y9 h1 x with
   |none=>simp only[q]at o1;exact o1.elim
   |some w=>
    obtain⟨xs,ok⟩:=w;simp only[q]at o1;have rf:Rep κ β1 F.O H1 x v:=rf;obtain⟨a,ys,ev,sq,rs⟩:=G8 (F:=F.to β1 h1) q r1 rf (EE q).1;subst ev
    refine⟨a,rfl,⟨ys,sq⟩,o1 β1 _ H1 Ext.refl ⟨r1,[.ref a],.cons rf .nil,fun F' σ' H' rel' r' hk i=>?_⟩⟩
    cases r' with
    |cons r'' _=>
     obtain⟨a',ys',ev',sq',rs'⟩:=G8 q rel' r'' hk;cases ev'
     refine⟨fun hi=>⟨?_,fun y H' ⟨e,yl⟩=>?_⟩,fun hi=>⟨ys',sq',by rw[<-rs'.length];exact hi⟩⟩
     .obtain⟨y,hy,_⟩:=rs'.get (i:=i) (z0 hi)
      exact⟨ys',y,sq',hy⟩
     .subst e
      obtain⟨x3,h1,h2⟩:=rs'.get' (yl ys' sq');exact⟨x3,h1,Ext.refl,rel',h2⟩
end
end L3
namespace L3
open PySem PySem.Spec PyProof.Rows L2
abbrev F3:=List V3->H3->Res Vl
noncomputable def start3 (n:Nat) (vs:List V3):S3:=vs.map (fun x=>some (.v x))++List.replicate (n-vs.length) none
noncomputable def O3.res:O3->Res Vl
 |.nx _ h=>.ok (.v .non) h
 |.rt r h=>.ok r h
 |.ex x h=>.ex x h
 |_=>.no
def fun3 (k n:Nat) (b:D3):F3:=fun vs h=>if vs.length=k then (b (start3 n vs) h).res else .no
def PR (κ:Kx) (N:Addr->Prop) (O:Addr->Prop) (β:AO) (h:H3) (H:Hp):Vl->V->Prop
 |.v x,v=>RelH κ O β h H/\Rep κ β O H x v
 |.m c,v=> ∃p,v=.ref p/\RelH κ (fun a=>a=p\/O a) β h H/\CellR κ β (fun a=>a=p\/O a) H c p/\N p/\¬O p
def FOut (κ:Kx) (E:XK) (O:Addr->Prop) (β:AO) (H:Hp) (Q:VK):Res Vl->Prop
 |.ok r h'=> ∀β' v H',Ext No β H β' H'->PR κ (Nw H) O β' h' H' r v->Q v H'
 |.ex x h'=> ∀β' H',Ext No β H β' H'->RelH κ O β' h' H'->XOk κ E x β' O H'
 |.no=>False
def zm (κ:Kx) (k:Nat) (f:F3):Sp:=fun vs H Q E=> ∃O β vs3 h3,vs.length=k/\RelH κ O β h3 H/\Reps κ β O H vs3 vs/\FOut κ E O β H Q (f vs3 h3)
section
variable {X:Cx} {κ:Kx} {E:XK} {F F1 F2 F':Fr} {σ σ':L2.St} {H H1 H2 H':Hp} {Q:VK} {p:Addr} {e a b o:Expr} {pos apos np:Pos} {i:Nat} {D:Ends}
def qE {a:Addr} {n:Nat}:some a∉List.replicate n (none:Option Addr):=fun h=>by cases (List.mem_replicate.mp h).2
def PU {n:Nat} {vs3:List V3} {i:Nat} {x:Vl} (h:(start3 n vs3)[i]? =some (some x)):∃y,vs3[i]? =some y/\x=.v y:=by
 unfold start3 at h
 by_cases hi:i<vs3.length
 .rw[A8 (by simpa using hi),Bl]at h
  cases q:vs3[i]? with
  |none=>rw[q]at h;cases h
  |some y=>rw[q]at h;cases h;exact⟨y,rfl,rfl⟩
 .rw[Bk (by simpa using hi)]at h
  have:=List.mem_replicate.mp (Am h);cases this.2
def Kw {O:Addr->Prop} {β:AO} {vs3:List V3} {vs:List V} {h3:H3} {N:List Str} (rh:RelH κ O β h3 H) (rv:Reps κ β O H vs3 vs) (hN:vs.length<=N.length):
  Rel κ ⟨O,[],β,List.replicate N.length none,start3 N.length vs3,h3⟩ (L2.start N vs) H:=by
 have hO:∀a,(⟨O,[],β,List.replicate N.length none,start3 N.length vs3,h3⟩:Fr).O a->O a:=fun a ha=>by
  rcases ha with z|z|z
  .cases z
  .exact absurd z qE
  .exact z
 have hl:=rv.length
 refine⟨rh.sub hO,?_,?_,fun i j a h=>?_,fun a ha=>absurd ha qE,fun a ha=>absurd ha qE,fun a ha=>(by cases ha),Fb,fun i x hx=>?_⟩
 .show (start3 N.length vs3).length=_
  unfold start3 L2.start;simp only[An,Ap,B2];lia
 .show (List.replicate N.length (none:Option Addr)).length=(start3 N.length vs3).length
  unfold start3;simp only[An,Ap,B2];lia
 .exact absurd (Am h) qE
 .obtain⟨y,hy,rfl⟩:=PU hx
  obtain⟨v,hv,r⟩:=rv.get hy
  refine⟨v,?_,Rep.sub hO r⟩
  unfold L2.start;have hi:i<vs.length:=(Aq.mp hv).1;rw[A8 (by simpa using hi),Bl,hv];rfl
def yo {P:Program} {w:World} {K:FG} {mg:Str->Option Value} {base:Heap} {x qual:Str} {st:Stmt} {f:Addr} {fd:FuncData} {N ps:List Str} {k:Nat} {b:D3} (Fn:Fun K x qual st f fd) (S:FnScope N ps (zC st))
  (hb:∀(cdv:Value) (A:Around) (outer:List Env) (s:Shared) (H:Hp) (E:XK),Room k (A.deeper (envOfC qual (zC st) s.heap.objs.size f cdv))->
   yk (yf (XT P w) P w K mg base N qual (zC st) f cdv A outer s H E) (qH st) (zl κ E b)):FnOk P w K mg base (XT P w) (k+1) f fd ps (zm κ ps.length (fun3 ps.length N.length b)):=by
 refine Fn.okX S (fun vs H Q E h=>?_) fun cdv A outer s H vs Q E hr h=>?_
 .obtain⟨_,_,_,_,h,_⟩:=h;exact h
 .obtain⟨O,β,vs3,h3,hl,rh,rv,o⟩:=h
  have hpl:ps.length<=N.length:=by have:=congrArg List.length S.pre;rw[A5]at this;lia
  have rel:=Kw (N:=N) rh rv (by lia)
  refine⟨zl κ E b,hb cdv A outer s H E hr,_,rel,rfl,?_⟩
  unfold fun3 at o;rw[Aa (by rw[rv.length];exact hl)]at o
  generalize hF:(⟨O,[],β,List.replicate N.length none,start3 N.length vs3,h3⟩:Fr)=F0 at rel;have e0:F0.s=start3 N.length vs3/\F0.h=h3/\F0.β=β/\F0.Oi=O/\∀a,some a∉F0.l:=by subst hF;exact⟨rfl,rfl,rfl,rfl,fun a=>qE⟩
  obtain⟨es,eh,eb,eo,el⟩:=e0;rw[es,eh];have ext:∀{F':Fr} {H':Hp},SExt F0 H F' H'->Ext No β H F'.β H':=fun {F' H'} se=>⟨fun a u h n _=>se.ext.keep a u h (by rw[eb];exact n) (el a),by rw[<-eb];exact se.ext.len,fun i a hi h=>by
   have:=se.ext.bet i a (by rw[eb];exact hi) h
   rw[eb]at this;exact this,se.ext.there,fun i a hi h=>se.ext.nwb i a (by rw[eb];exact hi) h⟩
  have hO:∀{F':Fr} {H':Hp},SExt F0 H F' H'->∀a,O a->F'.O a:=fun {F' H'} se a ha=>.inr (.inr (by rw[se.oi,eo];exact ha))
  cases q:b (start3 N.length vs3) h3 with
  |nx s1 h1=>
   rw[q]at o;exact fun F' σ' H' se _ h' r'=>o F'.β .non H' (ext se) ⟨by rw[<-h'];exact r'.heap.sub (hO se),.non⟩
  |rt r h1=>
   rw[q]at o;intro F' σ' v H' se h' p
   refine o F'.β v H' (ext se) ?_
   cases r with
   |v x=>exact⟨by rw[<-h'];exact p.1.heap.sub (hO se),Rep.sub (hO se) p.2⟩
   |m c=>
    obtain⟨p,h1,h2,h3',h4⟩:=p;have hs:∀a,a=p\/O a->(F'.with p).O a:=fun a ha=>ha.elim (fun z=>.inl (by rw[z];exact Ax)) fun z=>Fr.O_with (hO se a z)
    refine⟨p,h1,by rw[<-h'];exact h2.heap.sub hs,h3'.sub hs,h4.elim (fun z=>absurd z (el p)) id,fun z=>h2.apart (hO se p z)⟩
  |bk s1 h1=>rw[q]at o;exact (show False from o).elim
  |ct s1 h1=>rw[q]at o;exact (show False from o).elim
  |no=>rw[q]at o;exact o
  |ex x h1=>
   rw[q]at o;intro F' H' se r';have z:=o F'.β H' (ext se) (by rw[se.oi,eo]at r';exact r')
   rw[se.oi,eo];exact z
def Rel.nextNew {β':AO} {h':H3} (r:Rel κ F σ H) (e:Ext No F.β H β' H') (rh:RelH κ (fun a=>a=p\/F.O a) β' h' H') (hp:H p=none):Rel κ ((F.to β' h').with p) σ H':=by
 have n2: ¬F.O p:=(r.heap.off_new hp).2;have ho:∀a,((F.to β' h').with p).O a->a=p\/F.O a:=fun a ha=>by
  rcases ha with z|z
  .rcases Ag.mp z with z|z
   .exact .inl z
   .exact .inr (.inl z)
  .exact .inr (.inr z)
 have hO:∀a u,H a=some u->¬F.O a->¬((F.to β' h').with p).O a:=fun a u ha n z=>(ho a z).elim (fun w=>by subst w;rw[hp]at ha;cases ha) n
 refine⟨rh.sub ho,r.slen,r.llen,r.linj,fun a ha z=>?_,r.lo,fun a ha z=>?_,B1.mpr ⟨fun z=>n2 (.inl z),r.tn⟩,fun i x q=>?_⟩
 .rcases Ag.mp z with z|z
  .subst z;exact n2 (.inr (.inl ha))
  .exact r.lt a ha z
 .rcases Ag.mp ha with h|h
  .subst h;exact n2 (.inr (.inr z))
  .exact r.to a h z
 .obtain⟨v,h1,h2⟩:=r.slot i x q
  refine⟨v,h1,?_⟩
  cases x with
  |v x=>exact Rep.ext e (fun _ z=>z.elim) hO h2
  |m c=>
   obtain⟨a,a1,a2,a3⟩:=h2;have ha:F.O a:= .inr (.inl (Am a1));exact⟨a,a1,a2,a3.ext e (fun _ z=>z.elim) hO fun u hu=>(e.keep a u hu (r.heap.off a ha) fun z=>z).1⟩
def FOut.of {r:Res Vl} (rel:Rel κ F σ H) (o:Out κ E (kE κ) F σ H Q r):FOut κ E F.O F.β H Q r:=by
 cases r with
 |no=>exact o
 |ex x h'=>exact fun β' H' e r'=>(o β' H' e (r'.sub fun a ha=>.inr (.inr ha))).sub fun a ha=>.inr (.inr ha)
 |ok r h'=>
  intro β' v H' e q
  refine o β' v H' e ?_
  cases r with
  |v x=>exact⟨rel.next e q.1,q.2⟩
  |m c=>
   obtain⟨p,h1,h2,h3,h4,h5⟩:=q;have ho:∀a,((F.to β' h').with p).O a->a=p\/F.O a:=fun a ha=>by
    rcases ha with z|z
    .rcases Ag.mp z with z|z
     .exact .inl z
     .exact .inr (.inl z)
    .exact .inr (.inr z)
   exact⟨p,h1,rel.nextNew e h2 h4,h3.sub ho,h4⟩
def eCall (f:F3) (a:A3):E3:=fun s h=>(a s h).bind fun fs h1=>match vals3 fs with
 |some vs=>f vs h1
 |none=>.no
def zq (f:F3) (k:Nat):Prop:=∀vs h,vs.length≠k->f vs h=.no
def zE {k n:Nat} {b:D3}:zq (fun3 k n b) k:=fun vs h e=>Ab e
def PV {f:F3} {t:A3} {k:Nat} (hf:zq f k) (h:zi κ E (eCall f t) σ H Q):DT (zm κ k f) [] E (zG κ E t) σ H Q:=by
 obtain⟨F,rel,o⟩:=h
 refine (z7 (K:=kA κ) zM rel o).mono fun vs H1 ⟨β1,h1,fs,e1,⟨r1,rf1⟩,o1⟩=>?_
 cases q:vals3 fs with
 |none=>simp only[q]at o1;exact o1.elim
 |some xs=>
  simp only[q]at o1;have hr:=BL rf1 q;rw[Bo]
  refine⟨F.O,β1,xs,h1,?_,r1.heap,hr,FOut.of r1 o1⟩
  refine Fh fun n=>?_
  rw[hf xs h1 (by rw[hr.length];exact n)]at o1
  exact o1
def zp {x:Str} {es:List Expr} {f:F3} {t:A3} {k:Nat} {fa:Addr} {fd:FuncData} {ps:List Str} {n:Nat} (hf:zq f n) (Fk:FnOk X.prog X.w X.K X.mg X.base (XT X.prog X.w) k fa fd ps (zm κ n f)) (hr:Room k X.A) (hg:Gl X x) (hm:X.mg x=some (.ref fa)) (hk:PySem.W.keepIn X.K (.ref fa)=true) (hb:Binds X.K fd ps []) (hx:AB (XT X.prog X.w) X E)
 (ha:PA X (e::es) (zG κ E t)) (hdb:(x==("__debug__" :Str))=false:=by decide) (he:SE X e es:=by rfl) (hpl:BA X pos es:=by rfl):
 PE X (.Call (.Name x np) (e::es) [] pos) (zi κ E (eCall f t)):=yu (NK Fk hr hg hm hk hb .nil hx ha hdb he hpl) fun _ _ _ h=>PV hf h
def AZ:AB (XT X.prog X.w) X E0:=fun pins σ H s e s' I h=>by
 obtain⟨_,_,_,_,_,_,_,_,_,_,_,_,_,_,_,_,q⟩:=h;exact q.elim
end
section
variable {X:Cx} {κ:Kx} {E:XK} {F:Fr} {σ:L2.St} {H H':Hp} {Q:VK} {p:Addr} {pos:Pos} {i:Nat}
noncomputable def oI (g:Int->Int->Option V3):F2:=fun _ _ x y=>match x,y with
 |.x (.int i),.x (.int j)=>(g i j).map .v
 |_,_=>none
def Ky {g:Int->Int->Option V3} {s:S3} {h:H3} {x y:Rf} {z:Vl} (e:oI g s h x y=some z):∃i j w,x=.x (.int i)/\y=.x (.int j)/\g i j=some w/\z=.v w:=by
 unfold oI at e
 split at e
 .rename_i i j
  cases q:g i j with
  |none=>rw[q]at e;cases e
  |some w=>rw[q]at e;cases e;exact⟨i,j,w,rfl,rfl,q,rfl⟩
 .cases e
def EF {gv:Int->Int->V} {g:Int->Int->Option V3} (hg:∀i j z,g i j=some z->∀β O H,Rep κ β O H z (gv i j)):OpSim κ (qd gv) (oI g):=fun F σ H x y z v w Q rel rx ry e k=>by
 obtain⟨i,j,u,rfl,rfl,q,rfl⟩:=Ky e;cases (show Rep κ F.β F.O H (.int i) v from rx)
 cases (show Rep κ F.β F.O H (.int j) w from ry)
 exact⟨i,j,rfl,rfl,k _ H Ext.refl ⟨rel,hg i j u q _ _ _⟩⟩
def G9 {C:Int->Int->Prop} {gv:Int->Int->V} {g:Int->Int->Option V3} (hg:∀i j z,g i j=some z->C i j/\∀β O H,Rep κ β O H z (gv i j)):OpSim κ (rI C gv) (oI g):=fun F σ H x y z v w Q rel rx ry e k=>by
 obtain⟨i,j,u,rfl,rfl,q,rfl⟩:=Ky e;cases (show Rep κ F.β F.O H (.int i) v from rx)
 cases (show Rep κ F.β F.O H (.int j) w from ry)
 exact⟨i,j,rfl,rfl,(hg i j u q).1,k _ H Ext.refl ⟨rel,(hg i j u q).2 _ _ _⟩⟩
instance {i j:Int}:Decidable (CMul i j):=inferInstanceAs (Decidable (_\/_))
instance {i j:Int}:Decidable (CDiv i j):=inferInstanceAs (Decidable (_/\_))
instance {i j:Int}:Decidable (CPow i j):=inferInstanceAs (Decidable (_/\_))
def BO:F2:=oI fun i j=>some (.int (i+j))
def oSub:F2:=oI fun i j=>some (.int (i-j))
def GA:F2:=oI fun i j=>if CMul i j then some (.int (i*j)) else none
def oDiv:F2:=oI fun i j=>if CDiv i j then some (.int (i / j)) else none
def zx:F2:=oI fun i j=>if 0<j then some (.int (i%j)) else none
def zU:F2:=oI fun i j=>if CPow i j then some (.int (i ^ j.toNat)) else none
def oShr:F2:=oI fun i j=>if 0<=j then some (.int (i / 2 ^ j.toNat)) else none
def PX:F2:=oI fun i j=>some (.int (Builtin.bitAnd i j))
def oLt:F2:=oI fun i j=>some (.bl (decide (i<j)))
def oLe:F2:=oI fun i j=>some (.bl (decide (i<=j)))
def oGt:F2:=oI fun i j=>some (.bl (decide (j<i)))
def oGe:F2:=oI fun i j=>some (.bl (decide (j<=i)))
def sim_addI:OpSim κ (qd fun i j=>.int (i+j)) BO:=EF fun i j z e=>by cases e;exact fun _ _ _=>.int _
def GB:OpSim κ (qd fun i j=>.int (i-j)) oSub:=EF fun i j z e=>by cases e;exact fun _ _ _=>.int _
def PY:OpSim κ (qd fun i j=>.bl (decide (i<j))) oLt:=EF fun i j z e=>by cases e;exact fun _ _ _=>.bl _
def EG:OpSim κ (qd fun i j=>.bl (decide (i<=j))) oLe:=EF fun i j z e=>by cases e;exact fun _ _ _=>.bl _
def PZ:OpSim κ (qd fun i j=>.bl (decide (j<i))) oGt:=EF fun i j z e=>by cases e;exact fun _ _ _=>.bl _
def ql {c:Prop} [Decidable c] {α:Type} {x z:α} (e:(if c then some x else none)=some z):c/\x=z:=by
 by_cases h:c
 .rw[Aa h]at e;exact⟨h,Option.some.inj e⟩
 .rw[Ab h]at e;cases e
def sim_mulI:OpSim κ (rI CMul fun i j=>.int (i*j)) GA:=G9 fun i j z e=>by obtain⟨h,rfl⟩:=ql e;exact⟨h,fun _ _ _=>.int _⟩
def GC:OpSim κ (rI CDiv fun i j=>.int (i / j)) oDiv:=G9 fun i j z e=>by obtain⟨h,rfl⟩:=ql e;exact⟨h,fun _ _ _=>.int _⟩
def yE:OpSim κ (rI (fun _ j=>0<j) fun i j=>.int (i%j)) zx:=G9 fun i j z e=>by obtain⟨h,rfl⟩:=ql e;exact⟨h,fun _ _ _=>.int _⟩
def qF:OpSim κ (rI CPow fun i j=>.int (i ^ j.toNat)) zU:=G9 fun i j z e=>by obtain⟨h,rfl⟩:=ql e;exact⟨h,fun _ _ _=>.int _⟩
noncomputable def yV (f g:F2):F2:=fun s h x y=>match f s h x y with
 |some z=>some z
 |none=>g s h x y
def OpSim.or {r r':R2} {f g:F2} (hf:OpSim κ r f) (hg:OpSim κ r' g):OpSim κ (fun x y H Q=>r x y H Q\/r' x y H Q) (yV f g):=fun F σ H x y z v w Q rel rx ry e k=>by
 unfold yV at e;cases q:f F.s F.h x y with
 |some u=>rw[q]at e;cases e;exact .inl (hf F σ H x y _ v w Q rel rx ry q k)
 |none=>rw[q]at e;exact .inr (hg F σ H x y z v w Q rel rx ry e k)
noncomputable def BP:F2:=fun _ _ x y=>match x,y with
 |.x (.str i),.x (.str j)=>if i.length+j.length<=sizeLine then some (.v (.str (i++j))) else none
 |_,_=>none
def sim_addS:OpSim κ (fun x y H Q=> ∃i j,x=.str i/\y=.str j/\i.length+j.length<=sizeLine/\Q (.str (i++j)) H) BP:=fun F σ H x y z v w Q rel rx ry e k=>by
 unfold BP at e
 split at e
 .rename_i i j
  obtain⟨h,rfl⟩:=ql e;cases (show Rep κ F.β F.O H (.str i) v from rx)
  cases (show Rep κ F.β F.O H (.str j) w from ry)
  exact⟨i,j,rfl,rfl,h,k _ H Ext.refl ⟨rel,.str _⟩⟩
 .cases e
def rdm (s:S3) (h:H3):Rf->Option (List V3)
 |.x (.scr _)=>none
 |f=>rdl s h f
def BQ {f:Rf} {v:V} {xs:List V3} (rel:Rel κ F σ H) (r:RfR κ F H f v) (e:rdm F.s F.h f=some xs):∃a ys,v=.ref a/\H a=some (.lst ys)/\Reps κ F.β F.O H xs ys:=by
 cases f with
 |s i=>
  have e:rdl F.s F.h (.s i)=some xs:=e;obtain⟨a,c,h1,h2,h3,h4⟩:=r;simp only[rdl,h3]at e;cases c<;>simp at e
  subst e;obtain⟨ys,h5,h6⟩:=h4;exact⟨a,ys,h2,h5,h6⟩
 |x y=>
  cases y<;>simp[rdm,rdl]at e
  case lst zs=>
   subst e;cases r with
   |lst h1 h2 h3 h4=>exact⟨_,_,rfl,h1,h4⟩
  case loc n=>
   cases r with
   |loc h1 h2=>
    cases q:F.h[n]? with
    |none=>rw[q]at e;cases e
    |some c=>
     rw[q]at e;cases c<;>simp at e
     subst e
     rcases rel.heap.cell n _ q with z|⟨a,ha,ys,h5,h6⟩
     .cases z
     .exact⟨a,ys,h2 a ha,h5,h6⟩
def oCat:F2:=fun s h x y=>match rdm s h x,rdm s h y with
 |some xs,some ys=>if xs.length+ys.length<=sizeLine then some (.m (.lst (xs++ys))) else none
 |_,_=>none
def Qa:OpSim κ rCat oCat:=fun F σ H x y z v w Q rel rx ry e k=>by
 unfold oCat at e;cases q1:rdm F.s F.h x with
 |none=>rw[q1]at e;cases e
 |some xs=>
  cases q2:rdm F.s F.h y with
  |none=>rw[q1,q2]at e;cases e
  |some ys=>
   rw[q1,q2]at e;obtain⟨h,rfl⟩:=ql e;obtain⟨a,us,rfl,ha,ra⟩:=BQ rel rx q1;obtain⟨b,ws,rfl,hb,rb⟩:=BQ rel ry q2;exact⟨a,b,us,ws,rfl,rfl,ha,hb,by rw[<-ra.length,<-rb.length];exact h,fun p hp=>k _ _ (yh hp) (Post.lst rel hp (ra.append rb))⟩
def zk:F2:=yV BO (yV BP oCat)
def yx:OpR X (binaryOp .Add) (fun x y H Q=>(qd fun i j=>.int (i+j)) x y H Q\/((fun x y H Q=> ∃i j,x=.str i/\y=.str j/\i.length+j.length<=sizeLine/\Q (.str (i++j)) H) x y H Q\/rCat x y H Q)):=op_add.or (op_add_str.or Oo)
def yw:OpSim κ (fun x y H Q=>(qd fun i j=>.int (i+j)) x y H Q\/((fun x y H Q=> ∃i j,x=.str i/\y=.str j/\i.length+j.length<=sizeLine/\Q (.str (i++j)) H) x y H Q\/rCat x y H Q)) zk:=sim_addI.or (sim_addS.or Qa)
def oRep:F2:=fun s h x y=>match rdm s h x,y with
 |some xs,.x (.int k)=>if -(2 ^ 63)<=k/\k<2 ^ 63/\xs.length*k.toNat<=sizeLine then some (.m (.lst (List.replicate k.toNat xs).flatten)) else none
 |_,_=>none
def Qb:OpSim κ rRep oRep:=fun F σ H x y z v w Q rel rx ry e k=>by
 unfold oRep at e
 split at e
 .rename_i xs n q
  obtain⟨⟨h1,h2,h3⟩,rfl⟩:=ql e;obtain⟨a,us,rfl,ha,ra⟩:=BQ rel rx q;cases (show Rep κ F.β F.O H (.int n) w from ry)
  exact⟨a,n,us,rfl,rfl,ha,h1,h2,by rw[<-ra.length];exact h3,fun p hp=>k _ _ (yh hp) (Post.lst rel hp (ra.rep _))⟩
 .cases e
def zY:F2:=yV GA oRep
def BR:OpR X (binaryOp .Mult) (fun x y H Q=>(rI CMul fun i j=>.int (i*j)) x y H Q\/rRep x y H Q):=op_mul.or Os
def BS:OpSim κ (fun x y H Q=>(rI CMul fun i j=>.int (i*j)) x y H Q\/rRep x y H Q) zY:=sim_mulI.or Qb
theorem Reps.atI {xs:List V3} {ys:List V} {i:Int} {x:V3} (r:Reps κ F.β F.O H xs ys) (e:atI xs i=some x):∃y,L2.atI ys i=some y/\Rep κ F.β F.O H x y:=by
 unfold L2.atI at e ⊢;rw[<-r.length];cases q:qb xs.length i with
 |none=>rw[q]at e;cases e
 |some j=>
  rw[q]at e;exact r.get e
def oIxL:F2:=fun s h x y=>match y with
 |.x (.int i)=>match rdl s h x with
  |some xs=>(atI xs i).map .v
  |none=>none
 |_=>none
def oIxT:F2:=fun _ _ x y=>match x,y with
 |.x (.tup xs),.x (.int i)=>(atI xs i).map .v
 |_,_=>none
def oIxS:F2:=fun _ _ x y=>match x,y with
 |.x (.str z),.x (.int i)=>if z.length<=sizeLine then (atI z.cps.toList i).map fun c=>.v (.str ⟨#[c]⟩) else none
 |_,_=>none
def sim_ixL:OpSim κ (rIxL κ.K) oIxL:=fun F σ H x y z v w Q rel rx ry e k=>by
 unfold oIxL at e
 split at e
 .rename_i i
  cases (show Rep κ F.β F.O H (.int i) w from ry)
  cases q:rdl F.s F.h x with
  |none=>rw[q]at e;cases e
  |some xs=>
   rw[q]at e;cases q2:atI xs i with
   |none=>simp only[q2]at e;cases e
   |some u=>
    simp only[q2]at e;cases e;obtain⟨a,us,rfl,sq,ra⟩:=AK rel rx q;obtain⟨y,hy,ry'⟩:=Reps.atI ra q2;exact⟨a,us,i,y,rfl,rfl,sq,hy,k _ H Ext.refl ⟨rel,ry'⟩⟩
 .cases e
def sim_ixT:OpSim κ (rIxT κ.K) oIxT:=fun F σ H x y z v w Q rel rx ry e k=>by
 unfold oIxT at e
 split at e
 .rename_i xs i
  cases (show Rep κ F.β F.O H (.int i) w from ry)
  cases q2:atI xs i with
  |none=>rw[q2]at e;cases e
  |some u=>
   rw[q2]at e;cases e;cases (show Rep κ F.β F.O H (.tup xs) v from rx) with
   |tup h1 h2 h3 h4=>
    obtain⟨y,hy,ry'⟩:=Reps.atI h4 q2;exact⟨_,_,i,y,rfl,rfl,.of h1,hy,k _ H Ext.refl ⟨rel,ry'⟩⟩
 .cases e
def Qc:OpSim κ rIxS oIxS:=fun F σ H x y z v w Q rel rx ry e k=>by
 unfold oIxS at e
 split at e
 .rename_i zz i
  cases (show Rep κ F.β F.O H (.int i) w from ry)
  cases (show Rep κ F.β F.O H (.str zz) v from rx)
  obtain⟨h,e⟩:zz.length<=sizeLine/\((atI zz.cps.toList i).map fun c=>Vl.v (.str ⟨#[c]⟩))=some z:=by
   by_cases h:zz.length<=sizeLine
   .rw[Aa h]at e;exact⟨h,e⟩
   .rw[Ab h]at e;cases e
  cases q2:atI zz.cps.toList i with
  |none=>rw[q2]at e;cases e
  |some c=>
   rw[q2]at e;cases e;exact⟨zz,i,c,rfl,rfl,h,q2,k _ H Ext.refl ⟨rel,.str _⟩⟩
 .cases e
def zD:F2:=yV oIxT (yV oIxL oIxS)
def z5 (hK:X.K=κ.K):IxR X (fun x y H Q=>rIxT κ.K x y H Q\/(fun x y H Q=>rIxL κ.K x y H Q\/rIxS x y H Q) x y H Q):=by
 rw[<-hK];exact ix_tup.or (ix_list.or Oc)
def z4:OpSim κ (fun x y H Q=>rIxT κ.K x y H Q\/(fun x y H Q=>rIxL κ.K x y H Q\/rIxS x y H Q) x y H Q) zD:=sim_ixT.or (sim_ixL.or Qc)
noncomputable def oIsN (neg:Bool):F2:=fun _ _ x y=>match x,y with
 |.x .non,.x .non=>some (.v (.bl (!neg)))
 |.x (.loc _),_=>none
 |.x _,.x .non=>some (.v (.bl neg))
 |.s _,.x .non=>some (.v (.bl neg))
 |_,_=>none
def Qd {x:V3} {v:V} (r:Rep κ F.β F.O H x v) (h:x≠ .non) (h2:∀n,x≠ .loc n):v≠ .non:=by
 cases r<;>first|(intro z;cases z;done)|(exact absurd rfl h)|(exact absurd rfl (h2 _))
def Kz {neg:Bool} {s:S3} {h:H3} {x y:Rf} {z:Vl} {v w:V} (e:oIsN neg s h x y=some z) (rx:RfR κ F H x v) (ry:RfR κ F H y w):w=.non/\z=.v (.bl (if neg then !decide (v=.non) else decide (v=.non))):=by
 unfold oIsN at e
 split at e
 .cases e
  cases (show Rep κ F.β F.O H .non v from rx)
  cases (show Rep κ F.β F.O H .non w from ry)
  exact⟨rfl,by cases neg<;>simp⟩
 .cases e
 .rename_i x h1 h2
  cases e;cases (show Rep κ F.β F.O H .non w from ry)
  have hv:v≠ .non:=Qd (show Rep κ F.β F.O H x v from rx) (fun z=>by subst z;exact h1 rfl) (fun n z=>by subst z;exact h2 n rfl)
  exact⟨rfl,by cases neg<;>simp[hv]⟩
 .cases e
  cases (show Rep κ F.β F.O H .non w from ry)
  obtain⟨a,c,_,h2,_⟩:=rx;have hv:v≠ .non:=by rw[h2];intro z;cases z
  exact⟨rfl,by cases neg<;>simp[hv]⟩
 .cases e
def GD:OpSim κ (fun x y H Q=>y=.non/\Q (.bl (decide (x=.non))) H) (oIsN false):=fun F σ H x y z v w Q rel rx ry e k=>by
 obtain⟨h1,rfl⟩:=Kz e rx ry;exact⟨h1,k _ H Ext.refl ⟨rel,.bl _⟩⟩
def GE:OpSim κ (fun x y H Q=>y=.non/\Q (.bl (!decide (x=.non))) H) (oIsN true):=fun F σ H x y z v w Q rel rx ry e k=>by
 obtain⟨h1,rfl⟩:=Kz e rx ry;exact⟨h1,k _ H Ext.refl ⟨rel,.bl _⟩⟩
end
inductive K3 where
 |f (a:V)|l (xs:List V3)|t (xs:List V3)|o
noncomputable def yT (h:H3):V3->K3
 |.non=>.f .non
 |.bl b=>.f (.bl b)
 |.int i=>.f (.int i)
 |.str x=>.f (.str x)
 |.lst xs=>.l xs
 |.tup xs=>.t xs
 |.loc n=>match h[n]? with
  |some (.lst xs)=>.l xs
  |_=>.o
 |_=>.o
noncomputable def yR (f:V3->V3->Option Bool):List V3->List V3->Option Bool
 |x::xs,y::ys=>match f x y,yR f xs ys with
  |some a,some b=>some (a && b)
  |_,_=>none
 |_,_=>some true
noncomputable def emD:V3->Bool
 |.dT []=>true
 |_=>false
noncomputable def ya (h:H3):Nat->V3->V3->Option Bool
 |0,x,y=>match yT h x,yT h y with
  |.f a,.f b=>some (eqV a b)
  |_,_=>none
 |n+1,x,y=>match yT h x,yT h y with
  |.f a,.f b=>some (eqV a b)
  |.l xs,.l ys=>if xs.length=ys.length then yR (ya h n) xs ys else some false
  |.t xs,.t ys=>(yR (ya h n) xs ys).map (· && xs.length==ys.length)
  |.o,.o=>if emD x=true/\emD y=true then some true else none
  |.o,_=>none
  |_,.o=>none
  |_,_=>some false
section
variable {X:Cx} {κ:Kx} {E:XK} {F:Fr} {σ:L2.St} {H H':Hp} {Q:VK} {p:Addr} {pos:Pos} {i:Nat}
theorem CQ {f:V3->V3->Option Bool}:∀{xs ys:List V3} {b:Bool},yR f xs ys=some b->(∀(j:Nat) (x y:V3),xs[j]? =some x->ys[j]? =some y->∃c,f x y=some c)/\b=(List.range (min xs.length ys.length)).all fun j=>((xs[j]?).bind fun x=>(ys[j]?).bind fun y=>f x y).getD false
 | [],ys,b,e=>by
  unfold yR at e;cases e;exact⟨fun j x y h=>by simp at h,by simp⟩
 |x::xs,[],b,e=>by
  unfold yR at e;cases e;exact⟨fun j x y _ h=>by simp at h,by simp⟩
 |x::xs,y::ys,b,e=>by
  unfold yR at e;cases q1:f x y with
  |none=>simp only[q1]at e;cases e
  |some a=>
   cases q2:yR f xs ys with
   |none=>simp only[q1,q2]at e;cases e
   |some c=>
    simp only[q1,q2]at e;cases e;obtain⟨h1,h2⟩:=CQ q2
    refine⟨fun j x' y' hx hy=>?_,?_⟩
    .cases j with
     |zero=>simp at hx hy;subst hx;subst hy;exact⟨a,q1⟩
     |succ j=>exact h1 j x' y' (by simpa using hx) (by simpa using hy)
    .rw[Ay,Ay,Nat.add_min_add_right,List.range_succ_eq_map,List.all_cons,List.all_map]
     simp only[Dv,Fi,q1,Option.getD_some,h2,Function.comp_def,Dw]
def BB {x:V3} {v:V} (rel:RelH κ F.O F.β F.h H) (r:Rep κ F.β F.O H x v):match yT F.h x with
  |.f a=>v=a/\BK a=true
  |.l xs=> ∃a ys,v=.ref a/\H a=some (.lst ys)/\Reps κ F.β F.O H xs ys
  |.t xs=> ∃a ys,v=.ref a/\H a=some (.tup ys)/\Reps κ F.β F.O H xs ys
  |.o=>True:=by
 cases r with
 |lst h1 h2 h3 h4=>exact⟨_,_,rfl,h1,h4⟩
 |tup h1 h2 h3 h4=>exact⟨_,_,rfl,h1,h4⟩
 | @loc n v h1 h2=>
  simp only[yT];cases q:F.h[n]? with
  |none=>trivial
  |some c=>
   cases c with
   |lst xs=>
    rcases rel.cell n _ q with z|⟨a,ha,ys,h5,h6⟩
    .cases z
    .exact⟨a,ys,h2 a ha,h5,h6⟩
   |_=>trivial
 |_=>first|exact⟨rfl,rfl⟩|trivial
def Vals.at {ys:List V} {us:List Value} {j:Nat} {y:V} (r:Vals ys us) (h:j<us.toArray.size) (e:ys[j]? =some y):RelV y us.toArray[j]:=by
 obtain⟨u,h1,h2⟩:=r.get e;have:=(Aq.mp h1).2;have e1:us.toArray[j]=u:=by simpa using this
 rw[e1];exact h2
def K0 {n:Nat} (ih:∀{x y:V3} {v:V} {b:Bool},Rep κ F.β F.O H x v->Rep κ F.β F.O H y v->ya F.h n x y=some b->b=true):∀{xs ys:List V3} {vs:List V} {b:Bool},Reps κ F.β F.O H xs vs->Reps κ F.β F.O H ys vs->yR (ya F.h n) xs ys=some b->b=true:=by
 intro xs
 induction xs with
 |nil=>intro ys vs b _ _ e;unfold yR at e;cases e;rfl
 |cons x xs ihx=>
  intro ys vs b r1 r2 e;cases r1 with
  |cons a1 t1=>
   cases r2 with
   | @cons y _ ys _ a2 t2=>
    unfold yR at e;cases q1:ya F.h n x y with
    |none=>simp only[q1]at e;cases e
    |some a=>
     cases q2:yR (ya F.h n) xs ys with
     |none=>simp only[q1,q2]at e;cases e
     |some c=>
      simp only[q1,q2]at e;cases e;rw[ih a1 a2 q1,ihx t1 t2 q2];rfl
def K1 {a:V} (h:BK a=true):eqV a a=true:=by cases a<;>simp[BK]at h<;>simp[eqV]
theorem HV (rel:RelH κ F.O F.β F.h H):∀(n:Nat) {x y:V3} {v:V} {b:Bool},Rep κ F.β F.O H x v->Rep κ F.β F.O H y v->ya F.h n x y=some b->b=true
 |0,x,y,v,b,rx,ry,e=>by
  have kx:=BB rel rx;have ky:=BB rel ry;unfold ya at e;cases h1:yT F.h x<;>cases h2:yT F.h y<;>simp only[h1,h2]at e kx ky<;>try cases e
  obtain⟨e1,e2⟩:=kx;obtain⟨e3,_⟩:=ky;rw[<-e1,<-e3];rw[<-e1]at e2;exact K1 e2
 |n+1,x,y,v,b,rx,ry,e=>by
  have kx:=BB rel rx;have ky:=BB rel ry;unfold ya at e;cases h1:yT F.h x<;>cases h2:yT F.h y<;>simp only[h1,h2]at e kx ky<;>try cases e
  case o.o=>split at e<;>cases e;rfl
  case f.f=>
   obtain⟨e1,e2⟩:=kx;obtain⟨e3,_⟩:=ky;rw[<-e1,<-e3];rw[<-e1]at e2;exact K1 e2
  case f.l=>obtain⟨e1,e2⟩:=kx;obtain⟨a,ys,e3,_⟩:=ky;rw[<-e1,e3]at e2;cases e2
  case f.t=>obtain⟨e1,e2⟩:=kx;obtain⟨a,ys,e3,_⟩:=ky;rw[<-e1,e3]at e2;cases e2
  case l.f=>obtain⟨e1,e2⟩:=ky;obtain⟨a,ys,e3,_⟩:=kx;rw[<-e1,e3]at e2;cases e2
  case t.f=>obtain⟨e1,e2⟩:=ky;obtain⟨a,ys,e3,_⟩:=kx;rw[<-e1,e3]at e2;cases e2
  case l.t=>obtain⟨a,ys,e3,h5,_⟩:=kx;obtain⟨a',ys',e4,h6,_⟩:=ky;rw[e3]at e4;cases e4;rw[h5]at h6;cases h6
  case t.l=>obtain⟨a,ys,e3,h5,_⟩:=kx;obtain⟨a',ys',e4,h6,_⟩:=ky;rw[e3]at e4;cases e4;rw[h5]at h6;cases h6
  case l.l xs ys=>
   obtain⟨a,us,e3,h5,r5⟩:=kx;obtain⟨a',us',e4,h6,r6⟩:=ky;rw[e3]at e4;cases e4;rw[h5]at h6;cases h6;rw[Aa (by rw[r5.length,r6.length])]at e
   exact K0 (fun a b c=>HV rel n a b c) r5 r6 e
  case t.t xs ys=>
   obtain⟨a,us,e3,h5,r5⟩:=kx;obtain⟨a',us',e4,h6,r6⟩:=ky;rw[e3]at e4;cases e4;rw[h5]at h6;cases h6;cases q:yR (ya F.h n) xs ys with
   |none=>rw[q]at e;cases e
   |some c=>
    rw[q]at e;cases e;rw[K0 (fun a b c=>HV rel n a b c) r5 r6 q,r5.length,r6.length]
    simp
def K2 {s:Shared} {a c:V} {v u:Value} {A:Around} (r1:RelV a v) (r2:RelV c u) (f1:BK a=true) (f2:BK c=true):SeqAt.RcAt A s v u (eqV a c)/\SeqAt.RcNeAt A s v u (!eqV a c):=by
 cases a with
 |non=>
  cases r1;cases c with
  |non=>cases r2;exact⟨.none_none,.none_none⟩
  |bl c=>cases r2;exact⟨.none_bool _,.none_bool _⟩
  |int c=>obtain⟨tr2,rfl⟩:=r2;exact⟨.none_int _ _,.none_int _ _⟩
  |str c=>obtain⟨tr2,rfl⟩:=r2;exact⟨.none_str _ _,.none_str _ _⟩
  |_=>exact absurd (show false=true from f2) A2
 |bl a=>
  cases r1;cases c with
  |non=>cases r2;exact⟨.bool_none _,.bool_none _⟩
  |bl c=>cases r2;exact⟨.bool_bool _ _,.bool_bool _ _⟩
  |int c=>obtain⟨tr2,rfl⟩:=r2;exact⟨.bool_int _ _ _,.bool_int _ _ _⟩
  |str c=>obtain⟨tr2,rfl⟩:=r2;exact⟨.bool_str _ _ _,.bool_str _ _ _⟩
  |_=>exact absurd (show false=true from f2) A2
 |int a=>
  obtain⟨tr1,rfl⟩:=r1;cases c with
  |non=>cases r2;exact⟨.int_none _ _,.int_none _ _⟩
  |bl c=>cases r2;exact⟨.int_bool _ _ _,.int_bool _ _ _⟩
  |int c=>obtain⟨tr2,rfl⟩:=r2;exact⟨.int_int _ _ _ _,.int_int _ _ _ _⟩
  |str c=>obtain⟨tr2,rfl⟩:=r2;exact⟨.int_str _ _ _ _,.int_str _ _ _ _⟩
  |_=>exact absurd (show false=true from f2) A2
 |str a=>
  obtain⟨tr1,rfl⟩:=r1;cases c with
  |non=>cases r2;exact⟨.str_none _ _,.str_none _ _⟩
  |bl c=>cases r2;exact⟨.str_bool _ _ _,.str_bool _ _ _⟩
  |int c=>obtain⟨tr2,rfl⟩:=r2;exact⟨.str_int _ _ _ _,.str_int _ _ _ _⟩
  |str c=>obtain⟨tr2,rfl⟩:=r2;exact⟨.str_str _ _ _ _,.str_str _ _ _ _⟩
  |_=>exact absurd (show false=true from f2) A2
 |_=>exact absurd (show false=true from f1) A2
def K4 {x:V3} {v:V} (r:Rep κ F.β F.O H x v) (h:emD x=true):∃a,v=.ref a/\H a=some (.dT []):=by
 unfold emD at h
 split at h
 .cases r with
  |dT h1 _ _ h4=>cases h4;exact⟨_,rfl,h1⟩
 .cases h
def K5 {pins:AL} {s:Shared} {a:Addr} (I:Inv X pins σ H s) (h:H a=some (.dT [])):(a==sysModules)=false/\∀(prog:Program) (w:World),s.heap.DictOf (BI prog w) a []:=by
 obtain⟨_,h1,xs,hx,o,es,ep,ho,he,hd,hl,_,_⟩:=(show ObjOk X.prog X.w H s.heap a (.dT []) from I.hok a _ h)
 cases hx;have e0:es= #[]:=by
  apply Cr
  rw[hl];rfl
 subst e0;exact⟨h1,fun prog w=>⟨o,#[],ep,ho,he,hd,fun e he=>by simp at he,.nil,Fb⟩⟩
def ans (h:H3) (n:Nat) (xs ys:List V3) (j:Nat):Bool:=((xs[j]?).bind fun x=>(ys[j]?).bind fun y=>ya h n x y).getD false
def K6 (rel:RelH κ F.O F.β F.h H):∀(n:Nat) {pins:AL} {s:Shared} {x y:V3} {v' u':V} {v u:Value} {b:Bool} {A:Around},Inv X pins σ H s->Rep κ F.β F.O H x v'->Rep κ F.β F.O H y u'->RelV v' v->RelV u' u->ya F.h n x y=some b->A.units+n<cLine->
  (SeqAt.RcAt A s v u b/\SeqAt.RcNeAt A s v u (!b))/\SeqAt.EqAt A s v u b:=by
 intro n
 induction n with
 |zero=>
  intro pins s x y v' u' v u b A I rx ry rv ru e hu;have kx:=BB rel rx;have ky:=BB rel ry;unfold ya at e;cases h1:yT F.h x<;>cases h2:yT F.h y<;>simp only[h1,h2]at e kx ky<;>try cases e
  obtain⟨e1,e2⟩:=kx;obtain⟨e3,e4⟩:=ky;subst e1;subst e3;exact⟨K2 rv ru e2 e4,JI rv ru e2 e4⟩
 |succ n ih=>
  intro pins s x y v' u' v u b A I rx ry rv ru e hu;have kx:=BB rel rx;have ky:=BB rel ry;have e0:=e;unfold ya at e;have items:∀{xs ys:List V3} {us ws:List V} {vs zs:List Value} {c:Bool},Reps κ F.β F.O H xs us->Reps κ F.β F.O H ys ws->Vals us vs->Vals ws zs->yR (ya F.h n) xs ys=some c->∀j (h1:j<vs.toArray.size) (h2:j<zs.toArray.size),SeqAt.EqAt A.in1 s vs.toArray[j] zs.toArray[j] (ans F.h n xs ys j):=by
   intro xs ys us ws vs zs c r1 r2 v1 v2 q j h1 h2;have l1:=r1.length;have l2:=r2.length;have l3:=v1.length;have l4:=v2.length;have h1':j<xs.length:=by rw[l1,l3];simpa using h1
   have h2':j<ys.length:=by rw[l2,l4];simpa using h2
   obtain⟨y1,hy1,ry1⟩:=r1.get (z0 h1');obtain⟨y2,hy2,ry2⟩:=r2.get (z0 h2');obtain⟨d,hd⟩:=(CQ q).1 j _ _ (z0 h1') (z0 h2');have ea:ans F.h n xs ys j=d:=by unfold ans;rw[z0 h1',z0 h2'];simp[hd]
   rw[ea];exact (ih I ry1 ry2 (Vals.at v1 h1 hy1) (Vals.at v2 h2 hy2) hd (by show A.units+1+n<cLine;lia)).2
  have wrap:∀{a a':Addr},v'=.ref a->u'=.ref a'->(SeqAt.RcAt A s v u b/\SeqAt.RcNeAt A s v u (!b))->(SeqAt.RcAt A s v u b/\SeqAt.RcNeAt A s v u (!b))/\SeqAt.EqAt A s v u b:=by
   intro a a' ea ea' h
   refine⟨h,?_⟩
   subst ea;subst ea';cases rv;cases ru
   by_cases z:a=a'
   .subst z
    rw[HV rel (n+1) rx ry e0];exact SeqAt.EqAt.same _
   .exact SeqAt.EqAt.of_refs z h.1
  cases h1:yT F.h x<;>cases h2:yT F.h y<;>simp only[h1,h2]at e kx ky<;>try cases e
  case succ.f.f.refl=>
   obtain⟨e1,e2⟩:=kx;obtain⟨e3,e4⟩:=ky;subst e1;subst e3;exact⟨K2 rv ru e2 e4,JI rv ru e2 e4⟩
  case succ.o.o=>
   split at e
   .rename_i hd
    cases e;obtain⟨a,rfl,ha⟩:=K4 rx hd.1;obtain⟨a',rfl,ha'⟩:=K4 ry hd.2
    refine wrap rfl rfl ?_
    cases rv;cases ru;obtain⟨n1,d1⟩:=K5 I ha;obtain⟨n2,d2⟩:=K5 I ha';exact⟨fun prog w E Q hq=>PySem.W.keq_eq (knd:=BI prog w) n1 n2 (d1 prog w) (d2 prog w) (by lia) (fun _=>.nil) hq,fun prog w E Q hq=>PySem.W.keq_ne (knd:=BI prog w) n1 n2 (d1 prog w) (d2 prog w) (by lia) (fun _=>.nil) hq⟩
   .cases e
  case succ.l.l xs ys=>
   obtain⟨a,us,rfl,h5,r5⟩:=kx;obtain⟨a',us',rfl,h6,r6⟩:=ky
   refine wrap rfl rfl ?_
   cases rv;cases ru;obtain⟨vs,rv,pl,_⟩:=I.list (SqL.of (K:=X.K) h5);obtain⟨zs,rz,pz,_⟩:=I.list (SqL.of (K:=X.K) h6);have l1:=r5.length;have l2:=r6.length;have l3:=rv.length;have l4:=rz.length
   by_cases hl:xs.length=ys.length
   .rw[Aa hl]at e
    have hsz:vs.toArray.size=zs.toArray.size:=by rw[Al,Al];lia
    have eb:b=(List.range vs.toArray.size).all (ans F.h n xs ys):=by
     rw[(CQ e).2,<-hl,Nat.min_self,Al,<-l3,<-l1];rfl
    rw[eb];exact⟨.lists pl.isList pz.isList hsz (by lia) (items r5 r6 rv rz e),.lists pl.isList pz.isList hsz (by lia) (items r5 r6 rv rz e)⟩
   .rw[Ab hl]at e;cases e
    have hsz:(vs.toArray.size !=zs.toArray.size)=true:=by rw[Al,Al];simp;lia
    exact⟨.lists_lengths pl.isList pz.isList hsz (by lia),.lists_lengths pl.isList pz.isList hsz (by lia)⟩
  case succ.t.t xs ys=>
   obtain⟨a,us,rfl,h5,r5⟩:=kx;obtain⟨a',us',rfl,h6,r6⟩:=ky
   refine wrap rfl rfl ?_
   cases rv;cases ru;obtain⟨vs,rv,pl,_⟩:=I.tuple (SqT.of (K:=X.K) h5);obtain⟨zs,rz,pz,_⟩:=I.tuple (SqT.of (K:=X.K) h6);have l1:=r5.length;have l2:=r6.length;have l3:=rv.length;have l4:=rz.length;cases q:yR (ya F.h n) xs ys with
   |none=>rw[q]at e;cases e
   |some c=>
    rw[q]at e;have eb:b=((List.range (min vs.toArray.size zs.toArray.size)).all (ans F.h n xs ys) && vs.toArray.size==zs.toArray.size):=by
     cases e;rw[(CQ q).2,Al,Al,<-l3,<-l4,<-l1,<-l2];rfl
    rw[eb];exact⟨.tuples (show s.heap.IsTuple a vs.toArray from pl) (show s.heap.IsTuple a' zs.toArray from pz) (by lia) (items r5 r6 rv rz q),.tuples (show s.heap.IsTuple a vs.toArray from pl) (show s.heap.IsTuple a' zs.toArray from pz) (by lia) (items r5 r6 rv rz q)⟩
  case succ.l.t.refl xs ys=>
   obtain⟨a,us,rfl,h5,r5⟩:=kx;obtain⟨a',us',rfl,h6,r6⟩:=ky
   refine wrap rfl rfl ?_
   cases rv;cases ru;obtain⟨vs,rv,pl,_⟩:=I.list (SqL.of (K:=X.K) h5);obtain⟨zs,rz,pz,_⟩:=I.tuple (SqT.of (K:=X.K) h6);exact⟨.list_tuple pl.isList (show s.heap.IsTuple a' zs.toArray from pz) (by lia),.list_tuple pl.isList (show s.heap.IsTuple a' zs.toArray from pz) (by lia)⟩
  case succ.t.l.refl xs ys=>
   obtain⟨a,us,rfl,h5,r5⟩:=kx;obtain⟨a',us',rfl,h6,r6⟩:=ky
   refine wrap rfl rfl ?_
   cases rv;cases ru;obtain⟨vs,rv,pl,_⟩:=I.tuple (SqT.of (K:=X.K) h5);obtain⟨zs,rz,pz,_⟩:=I.list (SqL.of (K:=X.K) h6);exact⟨.tuple_list (show s.heap.IsTuple a vs.toArray from pl) pz.isList (by lia),.tuple_list (show s.heap.IsTuple a vs.toArray from pl) pz.isList (by lia)⟩
  case succ.l.f.refl xs a0=>
   obtain⟨a,us,rfl,h5,r5⟩:=kx;obtain⟨e3,e4⟩:=ky;subst e3;cases rv;obtain⟨vs,rv,pl,_⟩:=I.list (SqL.of (K:=X.K) h5);have hu':A.units<cLine:=by lia
   cases u' with
   |non=>cases ru;exact⟨⟨.list_none pl.isList hu',.list_none pl.isList hu'⟩,.list_none pl.isList hu'⟩
   |bl b=>cases ru;exact⟨⟨.list_bool b pl.isList hu',.list_bool b pl.isList hu'⟩,.list_bool b pl.isList hu'⟩
   |int b=>obtain⟨t,rfl⟩:=ru;exact⟨⟨.list_int b t pl.isList hu',.list_int b t pl.isList hu'⟩,.list_int b t pl.isList hu'⟩
   |str b=>obtain⟨t,rfl⟩:=ru;exact⟨⟨.list_str b t pl.isList hu',.list_str b t pl.isList hu'⟩,.list_str b t pl.isList hu'⟩
   |_=>exact absurd (show false=true from e4) A2
  case succ.t.f.refl xs a0=>
   obtain⟨a,us,rfl,h5,r5⟩:=kx;obtain⟨e3,e4⟩:=ky;subst e3;cases rv;obtain⟨vs,rv,pl,_⟩:=I.tuple (SqT.of (K:=X.K) h5);have pl:s.heap.IsTuple a vs.toArray:=pl;have hu':A.units<cLine:=by lia
   cases u' with
   |non=>cases ru;exact⟨⟨.tuple_none pl hu',.tuple_none pl hu'⟩,.tuple_none pl hu'⟩
   |bl b=>cases ru;exact⟨⟨.tuple_bool b pl hu',.tuple_bool b pl hu'⟩,.tuple_bool b pl hu'⟩
   |int b=>obtain⟨t,rfl⟩:=ru;exact⟨⟨.tuple_int b t pl hu',.tuple_int b t pl hu'⟩,.tuple_int b t pl hu'⟩
   |str b=>obtain⟨t,rfl⟩:=ru;exact⟨⟨.tuple_str b t pl hu',.tuple_str b t pl hu'⟩,.tuple_str b t pl hu'⟩
   |_=>exact absurd (show false=true from e4) A2
  case succ.f.l.refl a0 xs=>
   obtain⟨a,us,rfl,h5,r5⟩:=ky;obtain⟨e3,e4⟩:=kx;subst e3;cases ru;obtain⟨vs,ru,pl,_⟩:=I.list (SqL.of (K:=X.K) h5);have hu':A.units<cLine:=by lia
   cases v' with
   |non=>cases rv;exact⟨⟨.none_list pl.isList hu',.none_list pl.isList hu'⟩,.none_list pl.isList hu'⟩
   |bl b=>cases rv;exact⟨⟨.bool_list b pl.isList hu',.bool_list b pl.isList hu'⟩,.bool_list b pl.isList hu'⟩
   |int b=>obtain⟨t,rfl⟩:=rv;exact⟨⟨.int_list b t pl.isList hu',.int_list b t pl.isList hu'⟩,.int_list b t pl.isList hu'⟩
   |str b=>obtain⟨t,rfl⟩:=rv;exact⟨⟨.str_list b t pl.isList hu',.str_list b t pl.isList hu'⟩,.str_list b t pl.isList hu'⟩
   |_=>exact absurd (show false=true from e4) A2
  case succ.f.t.refl a0 xs=>
   obtain⟨a,us,rfl,h5,r5⟩:=ky;obtain⟨e3,e4⟩:=kx;subst e3;cases ru;obtain⟨vs,ru,pl,_⟩:=I.tuple (SqT.of (K:=X.K) h5);have pl:s.heap.IsTuple a vs.toArray:=pl;have hu':A.units<cLine:=by lia
   cases v' with
   |non=>cases rv;exact⟨⟨.none_tuple pl hu',.none_tuple pl hu'⟩,.none_tuple pl hu'⟩
   |bl b=>cases rv;exact⟨⟨.bool_tuple b pl hu',.bool_tuple b pl hu'⟩,.bool_tuple b pl hu'⟩
   |int b=>obtain⟨t,rfl⟩:=rv;exact⟨⟨.int_tuple b t pl hu',.int_tuple b t pl hu'⟩,.int_tuple b t pl hu'⟩
   |str b=>obtain⟨t,rfl⟩:=rv;exact⟨⟨.str_tuple b t pl hu',.str_tuple b t pl hu'⟩,.str_tuple b t pl hu'⟩
   |_=>exact absurd (show false=true from e4) A2
def qB (s:S3) (h:H3) (x y:Rf):Option Bool:=match rdm s h x,rdm s h y with
 |some xs,some ys=>if xs.length=ys.length then yR (ya h 8) xs ys else some false
 |_,_=>match x,y with
  |.x a,.x b=>ya h 9 a b
  |_,_=>none
def z9:F2:=fun s h x y=>(qB s h x y).map fun b=>.v (.bl b)
def yO:F2:=fun s h x y=>(qB s h x y).map fun b=>.v (.bl !b)
def rEqT (κ:Kx) (neg:Bool):R2:=fun v w H Q=> ∃F σ x y b,Rel κ F σ H/\RfR κ F H x v/\RfR κ F H y w/\qB F.s F.h x y=some b/\Q (.bl (if neg then !b else b)) H
def K7 {pins:AL} {s:Shared} {σ':L2.St} {x y:Rf} {v' u':V} {v u:Value} {b:Bool} {A:Around} (I:Inv X pins σ' H s) (rel:Rel κ F σ H) (rx:RfR κ F H x v') (ry:RfR κ F H y u') (rv:RelV v' v) (ru:RelV u' u) (e:qB F.s F.h x y=some b) (hu:A.units+9<cLine):
  SeqAt.RcAt A s v u b/\SeqAt.RcNeAt A s v u (!b):=by
 unfold qB at e
 split at e
 .rename_i xs ys q1 q2
  obtain⟨a,us,rfl,h5,r5⟩:=BQ rel rx q1;obtain⟨a',us',rfl,h6,r6⟩:=BQ rel ry q2;cases rv;cases ru;obtain⟨vs,rv,pl,_⟩:=I.list (SqL.of (K:=X.K) h5);obtain⟨zs,rz,pz,_⟩:=I.list (SqL.of (K:=X.K) h6);have l1:=r5.length;have l2:=r6.length;have l3:=rv.length;have l4:=rz.length
  by_cases hl:xs.length=ys.length
  .rw[Aa hl]at e
   have hsz:vs.toArray.size=zs.toArray.size:=by rw[Al,Al];lia
   have eb:b=(List.range vs.toArray.size).all (ans F.h 8 xs ys):=by
    rw[(CQ e).2,<-hl,Nat.min_self,Al,<-l3,<-l1];rfl
   have items:∀j (h1:j<vs.toArray.size) (h2:j<zs.toArray.size),SeqAt.EqAt A.in1 s vs.toArray[j] zs.toArray[j] (ans F.h 8 xs ys j):=by
    intro j h1 h2;have h1':j<xs.length:=by rw[l1,l3];simpa using h1
    have h2':j<ys.length:=by rw[l2,l4];simpa using h2
    obtain⟨y1,hy1,ry1⟩:=r5.get (z0 h1');obtain⟨y2,hy2,ry2⟩:=r6.get (z0 h2');obtain⟨d,hd⟩:=(CQ e).1 j _ _ (z0 h1') (z0 h2');have ea:ans F.h 8 xs ys j=d:=by unfold ans;rw[z0 h1',z0 h2'];simp[hd]
    rw[ea];exact (K6 rel.heap 8 I ry1 ry2 (Vals.at rv h1 hy1) (Vals.at rz h2 hy2) hd (by show A.units+1+8<cLine;lia)).2
   rw[eb];exact⟨.lists pl.isList pz.isList hsz (by lia) items,.lists pl.isList pz.isList hsz (by lia) items⟩
  .rw[Ab hl]at e;cases e
   have hsz:(vs.toArray.size !=zs.toArray.size)=true:=by rw[Al,Al];simp;lia
   exact⟨.lists_lengths pl.isList pz.isList hsz (by lia),.lists_lengths pl.isList pz.isList hsz (by lia)⟩
 .split at e
  .exact (K6 rel.heap 9 I (show Rep κ F.β F.O H _ v' from rx) (show Rep κ F.β F.O H _ u' from ry) rv ru e hu).1
  .cases e
def yX (hu:X.A.units+9<cLine):OpR X (compareOp .Eq) (rEqT κ false):=by
 intro pins s σ H x y v u Q I rx ry h;obtain⟨F,σ',x3,y3,b,rel,r1,r2,e,q⟩:=h;exact (K7 I rel r1 r2 rx ry e hu).1 X.prog X.w X.xe _ ⟨.bl b,H,I,rfl,q⟩
def BU (hu:X.A.units+9<cLine):OpR X (compareOp .NotEq) (rEqT κ true):=by
 intro pins s σ H x y v u Q I rx ry h;obtain⟨F,σ',x3,y3,b,rel,r1,r2,e,q⟩:=h;exact (K7 I rel r1 r2 rx ry e hu).2 X.prog X.w X.xe _ ⟨.bl !b,H,I,rfl,q⟩
def yW:OpSim κ (rEqT κ false) z9:=fun F σ H x y z v w Q rel rx ry e k=>by
 unfold z9 at e;cases q:qB F.s F.h x y with
 |none=>rw[q]at e;cases e
 |some b=>rw[q]at e;cases e;exact⟨F,σ,x,y,b,rel,rx,ry,q,k _ H Ext.refl ⟨rel,.bl _⟩⟩
def BV:OpSim κ (rEqT κ true) yO:=fun F σ H x y z v w Q rel rx ry e k=>by
 unfold yO at e;cases q:qB F.s F.h x y with
 |none=>rw[q]at e;cases e
 |some b=>rw[q]at e;cases e;exact⟨F,σ,x,y,b,rel,rx,ry,q,k _ H Ext.refl ⟨rel,.bl _⟩⟩
end
section
variable {X:Cx} {κ:Kx} {E:XK} {F:Fr} {σ:L2.St} {H H':Hp} {Q:VK} {p:Addr} {pos np:Pos} {i:Nat} {x:Str} {e:Expr} {es:List Expr} {t:A3}
def yb {id:String} {r:List V->Hp->VK->Prop} {f:FB} (hs:qr κ r f) (hc:CallR X (.builtin id) r) (hg:Gl X x) (hm:X.mg x=none) (hv:bootBuiltins x=some (.builtin id)) (ha:PA X (e::es) (zG κ E t)) (hn:x≠"__name__" :=by decide) (hdb:(x==("__debug__" :Str))=false:=by decide)
 (he:SE X e es:=by rfl) (hpl:BA X pos es:=by rfl):PE X (.Call (.Name x np) (e::es) [] pos) (zi κ E (eB f t)):=yu (NO hc hg hm hv ha hn hdb he hpl) fun _ _ _ h=>te_b hs h
def r_ty {T:String} {r:List V->Hp->VK->Prop} {f:FB} (hs:qr κ r f) (hc:CallR X (.type T) r) (hg:Gl X x) (hm:X.mg x=none) (hv:bootBuiltins x=some (.type T)) (ha:PA X (e::es) (zG κ E t)) (hn:x≠"__name__" :=by decide) (hdb:(x==("__debug__" :Str))=false:=by decide)
 (he:SE X e es:=by rfl) (hpl:BA X pos es:=by rfl):PE X (.Call (.Name x np) (e::es) [] pos) (zi κ E (eB f t)):=yu (NP hc hg hm hv ha hn hdb he hpl) fun _ _ _ h=>te_b hs h
def p1 {f:Rf} {vs:List V} (r:Paired (RfR κ F H) [f] vs):∃v,vs=[v]/\RfR κ F H f v:=by
 cases r with|cons a t=>cases t;exact⟨_,rfl,a⟩
def p2 {f g:Rf} {vs:List V} (r:Paired (RfR κ F H) [f,g] vs):∃v w,vs=[v,w]/\RfR κ F H f v/\RfR κ F H g w:=by
 cases r with|cons a t=>cases t with|cons b t=>cases t;exact⟨_,_,rfl,a,b⟩
def bLen:FB:=fun s h fs=>match fs with
 | [.x (.str y)]=>if y.length<=sizeLine then some (.v (.int y.length)) else none
 | [.x (.tup xs)]=>some (.v (.int xs.length))
 | [f]=>(rdl s h f).map fun xs=>.v (.int xs.length)
 |_=>none
def BW:qr κ (fun xs H Q=> ∃x n,xs=[x]/\LenV κ.K x H n/\Q (.int n) H) bLen:=fun F σ H fs z vs Q rel r e k=>by
 unfold bLen at e
 split at e
 .rename_i y
  obtain⟨v,rfl,rv⟩:=p1 r;cases (show Rep κ F.β F.O H (.str y) v from rv)
  obtain⟨h,rfl⟩:=ql e;exact⟨_,_,rfl,⟨h,rfl⟩,k _ H Ext.refl ⟨rel,.int _⟩⟩
 .rename_i xs
  obtain⟨v,rfl,rv⟩:=p1 r;cases e;cases (show Rep κ F.β F.O H (.tup xs) v from rv) with
  |tup h1 h2 h3 h4=>exact⟨_,_,rfl,.inr ⟨_,.of h1,rfl⟩,k _ H Ext.refl ⟨rel,by rw[h4.length];exact .int _⟩⟩
 .rename_i f _ _
  obtain⟨v,rfl,rv⟩:=p1 r;cases q:rdl F.s F.h f with
  |none=>rw[q]at e;cases e
  |some xs=>
   rw[q]at e;cases e;obtain⟨a,ys,rfl,sq,rs⟩:=AK rel rv q;exact⟨_,_,rfl,.inl ⟨_,sq,rfl⟩,k _ H Ext.refl ⟨rel,by rw[rs.length];exact .int _⟩⟩
 .cases e
def BX (hK:X.K=κ.K):CallR X (.builtin "len") (fun xs H Q=> ∃x n,xs=[x]/\LenV κ.K x H n/\Q (.int n) H):=by rw[<-hK];exact N6
noncomputable def bMax:FB:=fun _ _ fs=>match fs with
 | [.x (.int i),.x (.int j)]=>some (.v (.int (max i j)))
 |_=>none
noncomputable def bMin:FB:=fun _ _ fs=>match fs with
 | [.x (.int i),.x (.int j)]=>some (.v (.int (min i j)))
 |_=>none
noncomputable def bMin3:FB:=fun _ _ fs=>match fs with
 | [.x (.int i),.x (.int j),.x (.int k)]=>some (.v (.int (min i (min j k))))
 |_=>none
def Qe:qr κ (fun xs H Q=> ∃i j,xs=[.int i,.int j]/\Q (.int (if j > i then j else i)) H) bMax:=fun F σ H fs z vs Q rel r e k=>by
 unfold bMax at e
 split at e
 .rename_i i j
  cases e;obtain⟨v,w,rfl,rv,rw'⟩:=p2 r;cases (show Rep κ F.β F.O H (.int i) v from rv)
  cases (show Rep κ F.β F.O H (.int j) w from rw')
  refine⟨i,j,rfl,k _ H Ext.refl ⟨rel,?_⟩⟩
  have:(if j > i then j else i)=max i j:=by split<;>lia
  rw[this];exact .int _
 .cases e
noncomputable def bInt:FB:=fun _ _ fs=>match fs with
 | [.x (.int i)]=>some (.v (.int i))
 | [.x (.bl b)]=>some (.v (.int (if b then 1 else 0)))
 |_=>none
def bList:FB:=fun s h fs=>match fs with
 | [.x (.tup xs)]=>some (.m (.lst xs))
 | [f]=>(rdl s h f).map fun xs=>.m (.lst xs)
 |_=>none
def Qf:qr κ (fun xs H Q=> ∃p ys,xs=[.ref p]/\(SqL κ.K H p ys\/SqT κ.K H p ys)/\∀l,H l=none->Q (.ref l) (zh H l (.lst ys))) bList:=fun F σ H fs z vs Q rel r e k=>by
 unfold bList at e
 split at e
 .rename_i xs
  cases e;obtain⟨v,rfl,rv⟩:=p1 r;cases (show Rep κ F.β F.O H (.tup xs) v from rv) with
  |tup h1 h2 h3 h4=>exact⟨_,_,rfl,.inr (.of h1),fun l hl=>k _ _ (yh hl) (Post.lst rel hl h4)⟩
 .rename_i f _
  obtain⟨v,rfl,rv⟩:=p1 r;cases q:rdl F.s F.h f with
  |none=>rw[q]at e;cases e
  |some xs=>
   rw[q]at e;cases e;obtain⟨a,ys,rfl,sq,rs⟩:=AK rel rv q;exact⟨_,_,rfl,.inl sq,fun l hl=>k _ _ (yh hl) (Post.lst rel hl rs)⟩
 .cases e
noncomputable def zN {α β:Type} (f:α->Option β):List α->Option (List β)
 | []=>some []
 |x::r=>match f x,zN f r with
  |some y,some l=>some (y::l)
  |_,_=>none
theorem GF {α β γ:Type} {f:α->Option β} {g:γ->α} {k:γ->β} (h:∀c,f (g c)=some (k c)):∀l:List γ,zN f (l.map g)=some (l.map k)
 | []=>rfl
 |x::r=>by simp only[Ak,zN,h x,GF h r]
def GG {α β:Type} {f:α->Option β} {x:α} {r:List α} {l:List β} (e:zN f (x::r)=some l):∃y l',f x=some y/\zN f r=some l'/\l=y::l':=by
 unfold zN at e;cases q1:f x with
 |none=>simp only[q1]at e;cases e
 |some y=>
  cases q2:zN f r with
  |none=>simp only[q1,q2]at e;cases e
  |some l'=>simp only[q1,q2]at e;cases e;exact⟨y,l',rfl,rfl,rfl⟩
def bl3:V3->Option Bool
 |.bl b=>some b
 |_=>none
def int3:V3->Option Int
 |.int i=>some i
 |_=>none
theorem K8:∀{xs:List V3} {ys:List V} {bs:List Bool},Reps κ F.β F.O H xs ys->zN bl3 xs=some bs->ys=bs.map V.bl
 |_,_,_,.nil,e=>by cases e;rfl
 |x::xs,y::ys,bs,.cons a r,e=>by
  obtain⟨b,l,h1,h2,rfl⟩:=GG e;cases x<;>simp[bl3]at h1
  subst h1;cases a;rw[Ak,K8 r h2]
theorem zgr:∀{xs:List V3} {ys:List V} {bs:List Int},Reps κ F.β F.O H xs ys->zN int3 xs=some bs->ys=bs.map V.int
 |_,_,_,.nil,e=>by cases e;rfl
 |x::xs,y::ys,bs,.cons a r,e=>by
  obtain⟨b,l,h1,h2,rfl⟩:=GG e;cases x<;>simp[int3]at h1
  subst h1;cases a;rw[Ak,zgr r h2]
def bAll (q:List Bool->Bool):FB:=fun s h fs=>match fs with
 | [f]=>match rdl s h f with
  |some xs=>(zN bl3 xs).map fun bs=>.v (.bl (q bs))
  |none=>none
 |_=>none
def HW {q:List Bool->Bool}:qr κ (fun xs H Q=> ∃(p:Addr) (bs:List Bool),xs=[.ref p]/\SqL κ.K H p (bs.map V.bl)/\Q (.bl (q bs)) H) (bAll q):=fun F σ H fs z vs Q rel r e k=>by
 unfold bAll at e
 split at e
 .rename_i f
  obtain⟨v,rfl,rv⟩:=p1 r;cases q1:rdl F.s F.h f with
  |none=>rw[q1]at e;cases e
  |some xs=>
   rw[q1]at e;cases q2:zN bl3 xs with
   |none=>simp only[q2]at e;cases e
   |some bs=>
    simp only[q2]at e;cases e;obtain⟨a,ys,rfl,sq,rs⟩:=AK rel rv q1;exact⟨a,bs,rfl,by rw[<-K8 rs q2];exact sq,k _ H Ext.refl ⟨rel,.bl _⟩⟩
 .cases e
def HX (hK:X.K=κ.K) (hc:X.calm=true):CallR X (.builtin "all") (fun xs H Q=> ∃(p:Addr) (bs:List Bool),xs=[.ref p]/\SqL κ.K H p (bs.map V.bl)/\Q (.bl (bs.all id)) H):=by rw[<-hK];exact O6 hc
def Qg (hK:X.K=κ.K):CallR X (.type "list") (fun xs H Q=> ∃p ys,xs=[.ref p]/\(SqL κ.K H p ys\/SqT κ.K H p ys)/\∀l,H l=none->Q (.ref l) (zh H l (.lst ys))):=by rw[<-hK];exact Og
instance {x:Int}:Decidable (InLong x):=inferInstanceAs (Decidable (_/\_))
def ty3 (s:S3) (h:H3):Rf->Option String
 |.x .non=>some "NoneType"
 |.x (.bl _)=>some "bool"
 |.x (.int _)=>some "int"
 |.x (.str _)=>some "str"
 |.x (.tup _)=>some "tuple"
 |.x (.dT _)=>some "dict"
 |.x (.scr _)=>none
 |f=>(rdl s h f).map fun _=>"list"
noncomputable def isa (t T:String):Option Bool:=
 if T="int" then some (t=="int" || t=="bool") else if T="bool" \/T="str" \/T="list" \/T="tuple" then some (t==T) else none
def bIsT:FB:=fun s h fs=>match fs with
 | [f,.x (.ty T)]=>match ty3 s h f with
  |some t=>(isa t T).map fun b=>.v (.bl b)
  |none=>none
 |_=>none
def Qh {K:FG} {t T:String} {b:Bool} (ht:t∈["NoneType","bool","int","str","tuple","list","dict"]) (e:isa t T=some b):PySem.W.kitOne K (.type t) (.type T)=some b:=by
 unfold isa at e;have hT:T∈["int","bool","str","list","tuple"]:=by
  by_cases h:T="int"
  .simp[h]
  .rw[Ab h]at e
   by_cases h2:T="bool" \/T="str" \/T="list" \/T="tuple"
   .simp only[Ag,C8,Cg];exact .inr h2
   .rw[Ab h2]at e;cases e
 simp only[Ag,C8,Cg]at ht hT
 rcases ht with rfl|rfl|rfl|rfl|rfl|rfl|rfl<;>rcases hT with rfl|rfl|rfl|rfl|rfl<;>(simp at e;subst e;rfl)
def Qi {f:Rf} {v:V} {t:String} (rel:Rel κ F σ H) (r:RfR κ F H f v) (e:ty3 F.s F.h f=some t):t∈["NoneType","bool","int","str","tuple","list","dict"]/\TyOf κ.K H v (.type t):=by
 have lists:∀{f:Rf} {v:V} {t:String},RfR κ F H f v->(∀ns,f≠ .x (.scr ns))->((rdl F.s F.h f).map fun _=>"list")=some t->t∈["NoneType","bool","int","str","tuple","list","dict"]/\TyOf κ.K H v (.type t):=by
  intro f v t r hf e;cases q:rdl F.s F.h f with
  |none=>rw[q]at e;cases e
  |some xs=>
   rw[q]at e;cases e;have q2:rdm F.s F.h f=some xs:=by
    unfold rdm
    split
    .rename_i ns;exact absurd rfl (hf ns)
    .exact q
   obtain⟨a,ys,rfl,ha,_⟩:=BQ rel r q2;exact⟨by simp,.lst ha⟩
 cases f with
 |s i=>exact lists r (fun _ z=>nomatch z) e
 |x y=>
  cases y with
  |non=>cases e;cases (show Rep κ F.β F.O H .non v from r);exact⟨by simp,.non⟩
  |bl b=>cases e;cases (show Rep κ F.β F.O H (.bl b) v from r);exact⟨by simp,.bl b⟩
  |int b=>cases e;cases (show Rep κ F.β F.O H (.int b) v from r);exact⟨by simp,.int b⟩
  |str b=>cases e;cases (show Rep κ F.β F.O H (.str b) v from r);exact⟨by simp,.str b⟩
  |tup xs=>cases e;cases (show Rep κ F.β F.O H (.tup xs) v from r) with|tup h1 _ _ _=>exact⟨by simp,.tup h1⟩
  |dT kvs=>cases e;cases (show Rep κ F.β F.O H (.dT kvs) v from r) with|dT h1 _ _ _=>exact⟨by simp,.dT h1⟩
  |scr ns=>cases e
  |lst xs=>exact lists r (fun _ z=>nomatch z) e
  |loc n=>exact lists r (fun _ z=>nomatch z) e
  |_=>cases e
def CS:qr κ (fun xs H Q=> ∃x T t b,xs=[x,.ty T]/\TyOf κ.K H x t/\PySem.W.kitOne κ.K t (.type T)=some b/\Q (.bl b) H) bIsT:=fun F σ H fs z vs Q rel r e k=>by
 unfold bIsT at e
 split at e
 .rename_i f T
  obtain⟨v,w,rfl,rv,rw'⟩:=p2 r;cases (show Rep κ F.β F.O H (.ty T) w from rw')
  cases q1:ty3 F.s F.h f with
  |none=>rw[q1]at e;cases e
  |some t=>
   rw[q1]at e;cases q2:isa t T with
   |none=>simp only[q2]at e;cases e
   |some b=>
    simp only[q2]at e;cases e;obtain⟨h1,h2⟩:=Qi rel rv q1;exact⟨v,T,_,b,rfl,h2,Qh h1 q2,k _ H Ext.refl ⟨rel,.bl _⟩⟩
 .cases e
def CT (hK:X.K=κ.K):CallR X (.builtin "isinstance") (fun xs H Q=> ∃x T t b,xs=[x,.ty T]/\TyOf κ.K H x t/\PySem.W.kitOne κ.K t (.type T)=some b/\Q (.bl b) H):=by rw[<-hK];exact O4
def tru3 (s:S3) (h:H3):Rf->Option Bool
 |.x .non=>some false
 |.x (.bl b)=>some b
 |.x (.int i)=>some (i !=0)
 |.x (.str y)=>if y.length<=sizeLine then some ((y.length:Int) !=0) else none
 |.x (.tup xs)=>some (!xs.isEmpty)
 |f=>(rdl s h f).map fun xs=> !xs.isEmpty
def tP (p:P3):T3:=fun s h=>(p s h).bind fun f h1=>match tru3 s h1 f with
 |some b=>.ok b h1
 |none=>.no
def K9 {xs:List V3} {ys:List V} (r:Reps κ F.β F.O H xs ys):xs.isEmpty=ys.isEmpty:=by cases r<;>rfl
def Qj {f:Rf} {v:V} {b:Bool} (rel:Rel κ F σ H) (r:RfR κ F H f v) (e:tru3 F.s F.h f=some b):TruV κ.K v H b:=by
 have lists:∀{f:Rf} {v:V} {b:Bool},RfR κ F H f v->((rdl F.s F.h f).map fun xs=> !xs.isEmpty)=some b->TruV κ.K v H b:=by
  intro f v b r e;cases q:rdl F.s F.h f with
  |none=>rw[q]at e;cases e
  |some xs=>
   rw[q]at e;cases e;obtain⟨a,ys,rfl,sq,rs⟩:=AK rel r q;exact .inl ⟨ys,sq,by show (!xs.isEmpty)=_;rw[K9 rs]⟩
 cases f with
 |s i=>exact lists r e
 |x y=>
  cases y with
  |non=>cases e;cases (show Rep κ F.β F.O H .non v from r);rfl
  |bl b=>cases e;cases (show Rep κ F.β F.O H (.bl b) v from r);rfl
  |int b=>cases e;cases (show Rep κ F.β F.O H (.int b) v from r);rfl
  |str b=>cases (show Rep κ F.β F.O H (.str b) v from r);obtain⟨h,rfl⟩:=ql e;exact⟨h,rfl⟩
  |tup xs=>cases e;cases (show Rep κ F.β F.O H (.tup xs) v from r) with|tup h1 _ _ h4=>exact .inr (.inl ⟨_,.of h1,by rw[K9 h4]⟩)
  |scr ns=>exact lists r e
  |lst xs=>exact lists r e
  |loc n=>exact lists r e
  |_=>cases e
def HY {a:Expr} {d:P3} (hK:X.K=κ.K) (ha:PE X a (zt κ E d)) (he:∀whole,isTrue a X.env whole=(do let v <-whole;standAt a.pos;holding [v] (truthy v)):=by intro _;rfl):PT X a (zQ κ E (tP d)):=PTw (N3 ha he) fun σ H Q ⟨F,rel,o⟩=>
 (z7 (K:=kP κ) km_T rel o).mono fun v H1 ⟨β1,h1,f,e1,⟨r1,rf⟩,o1⟩=>by
  cases q:tru3 F.s h1 f with
  |none=>simp only[q]at o1;exact o1.elim
  |some b=>
   simp only[q]at o1;exact⟨b,by rw[hK];exact Qj (F:=F.to β1 h1) r1 rf q,o1 β1 b H1 Ext.refl ⟨rfl,r1⟩⟩
noncomputable def key3:V3->Option zw
 |.int i=>some (.inl i)
 |.str x=>some (.inr x)
 |_=>none
def row3:V3->Option (List zw)
 |.tup xs=>zN key3 xs
 |_=>none
noncomputable def unk:zw->V3
 |.inl i=>.int i
 |.inr x=>.str x
def AN (r:List zw):V3:= .tup (r.map unk)
noncomputable def EH (ns:List Int):List Int:=ns.mergeSort (fun a b=>decide (a<=b))
def GH (rows:List (List zw)):List (List zw):=rows.mergeSort (fun a b=> !lexK b a)
def GI (rows:List (List zw)):Bool:=match rows with
 | []=>true
 |r::l=>(qc r).head? ==some true && l.all fun q=>qc q==qc r
def EI (xs:List V3):Option (List V3):=match zN int3 xs with
 |some ns=>if ns.length<=100000 then some ((EH ns).map .int) else none
 |none=>match zN row3 xs with
  |some rows=>if rows.length<=100000/\GI rows=true then some ((GH rows).map AN) else none
  |none=>none
def BY:FB:=fun s h fs=>match fs with
 | [f]=>match rdl s h f with
  |some xs=>(EI xs).map fun ys=>.m (.lst ys)
  |none=>none
 |_=>none
def KA (ns:List Int):(EH ns).Perm ns/\(EH ns).Pairwise (fun a b=>a<=b):=by
 refine⟨List.mergeSort_perm _ _,?_⟩
 have:=List.pairwise_mergeSort (le:=fun a b:Int=>decide (a<=b)) (fun a b c h1 h2=>by simp at*;lia) (fun a b=>by simp;lia) ns
 exact this.imp fun h=>by simpa using h
def Ia (rows:List (List zw)):(GH rows).Perm rows/\(GH rows).Pairwise (fun a b=>lexK b a=false):=by
 refine⟨List.mergeSort_perm _ _,?_⟩
 have:=List.pairwise_mergeSort (le:=fun a b:List zw=> !lexK b a) (fun a b c h1 h2=>by simp at*;exact HR a b c h1 h2) (fun a b=>by
  cases h:lexK b a with
  |false=>simp
  |true=>simp[HQ b a h]) rows
 exact this.imp fun h=>by simpa using h
theorem KB:∀{xs:List V3} {ks:List zw},zN key3 xs=some ks->xs=ks.map unk
 | [],_,e=>by cases e;rfl
 |x::xs,ks,e=>by
  obtain⟨k,l,h1,h2,rfl⟩:=GG e;cases x<;>simp[key3]at h1<;>subst h1<;>rw[Ak,KB h2]<;>rfl
theorem KC:∀{xs:List V3} {rows:List (List zw)},zN row3 xs=some rows->xs=rows.map AN
 | [],_,e=>by cases e;rfl
 |x::xs,rows,e=>by
  obtain⟨k,l,h1,h2,rfl⟩:=GG e;cases x<;>simp[row3]at h1
  rw[Ak,KC h2,KB h1];rfl
theorem KD:∀{ks:List zw} {ys:List V},Reps κ F.β F.O H (ks.map unk) ys->ys=ks.map kV
 | [],_,r=>by cases r;rfl
 |k::ks,_,r=>by
  rw[Ak]at r;cases r with
  |cons a t=>
   rw[Ak,KD t];cases k<;>cases a<;>rfl
def Qk {r:List zw} {v:V} (h:Rep κ F.β F.O H (AN r) v):IsK κ.K H v r:=by
 unfold AN at h;cases h with
 |tup h1 h2 h3 h4=>exact⟨_,rfl,.of (by rw[KD h4]at h1;exact h1)⟩
theorem KF:∀{rows:List (List zw)} {ys:List V},Reps κ F.β F.O H (rows.map AN) ys->Paired (fun v r=>Rep κ F.β F.O H (AN r) v) ys rows
 | [],_,r=>by cases r;exact .nil
 |k::ks,_,r=>by
  rw[Ak]at r;cases r with|cons a t=>exact .cons a (KF t)
theorem KG:∀{rows:List (List zw)} {ys:List V},Paired (fun v r=>Rep κ F.β F.O H (AN r) v) ys rows->Reps κ F.β F.O H (rows.map AN) ys
 | [],_,r=>by cases r;exact .nil
 |k::ks,_,r=>by cases r with|cons a t=>exact .cons a (KG t)
theorem KH:∀l:List Int,Reps κ F.β F.O H (l.map V3.int) (l.map V.int)
 | []=>.nil
 |x::r=>.cons (.int x) (KH r)
def Ib (κ:Kx):List V->Hp->VK->Prop:=fun xs H Q=>(∃(p:Addr) (ns:List Int),xs=[.ref p]/\SqL κ.K H p (ns.map V.int)/\ns.length<=100000/\
 ∀(l:Addr) (ns':List Int),H l=none->ns'.Perm ns->ns'.Pairwise (fun a b=>a<=b)->Q (.ref l) (zh H l (.lst (ns'.map V.int))))\/(∃(p:Addr) (ys:List V) (rows:List (List zw)) (R:V->List zw->Prop) (sh:List Bool),xs=[.ref p]/\SqL κ.K H p ys/\(∀x r,R x r->IsK κ.K H x r)/\Paired R ys rows/\rows.length<=100000/\(∀r∈rows,qc r=true::sh)/\
 ∀(l:Addr) (ys':List V) (rows':List (List zw)),H l=none->rows'.Perm rows->rows'.Pairwise (fun a b=>lexK b a=false)->Paired R ys' rows'->Q (.ref l) (zh H l (.lst ys')))
def Ql (hK:X.K=κ.K):CallR X (.builtin "sorted") (Ib κ):=by
 unfold Ib;rw[<-hK];exact call_sortedI.or P9
def Qm:qr κ (Ib κ) BY:=fun F σ H fs z vs Q rel r e k=>by
 unfold BY at e
 split at e
 .rename_i f
  obtain⟨v,rfl,rv⟩:=p1 r;cases q1:rdl F.s F.h f with
  |none=>rw[q1]at e;cases e
  |some xs=>
   rw[q1]at e;obtain⟨a,ys,rfl,sq,rs⟩:=AK rel rv q1;cases q2:EI xs with
   |none=>simp only[q2]at e;cases e
   |some zs=>
    simp only[q2]at e;cases e;unfold EI at q2;cases q3:zN int3 xs with
    |some ns=>
     simp only[q3]at q2;obtain⟨hl,rfl⟩:=ql q2
     refine .inl ⟨a,ns,rfl,by rw[<-zgr rs q3];exact sq,hl,fun l ns' hn pm pw=>?_⟩
     have e:=PF (pm.trans (KA ns).1.symm) pw (KA ns).2;rw[e];exact k _ _ (yh hn) (Post.lst rel hn (KH _))
    |none=>
     simp only[q3]at q2;cases q4:zN row3 xs with
     |none=>simp only[q4]at q2;cases q2
     |some rows=>
      simp only[q4]at q2;obtain⟨⟨hl,hs⟩,rfl⟩:=ql q2;have ex:=KC q4;subst ex;have hsh:∃sh,∀r∈rows,qc r=true::sh:=by
       cases rows with
       |nil=>exact⟨[],fun r hr=>by cases hr⟩
       |cons r0 l=>
        simp only[GI,As,Af,Cm]at hs;obtain⟨h1,h2⟩:=hs;cases q:qc r0 with
        |nil=>rw[q]at h1;cases h1
        |cons b sh=>
         rw[q]at h1;cases h1
         refine⟨sh,fun r hr=>?_⟩
         rcases Ag.mp hr with z|z
         .rw[z,q]
         .rw[h2 r z,q]
      obtain⟨sh,hsh⟩:=hsh
      refine .inr ⟨a,ys,rows,fun v r=>Rep κ F.β F.O H (AN r) v,sh,rfl,sq,fun x r h=>Qk h,KF rs,hl,hsh,fun l ys' rows' hn pm pw pr=>?_⟩
      have e:=Kp (pm.trans (Ia rows).1.symm) pw (Ia rows).2;subst e;exact k _ _ (yh hn) (Post.lst rel hn (KG pr))
 .cases e
end
section
variable {X:Cx} {κ:Kx} {E:XK} {F F1 F2 F':Fr} {σ σ':L2.St} {H H1 H2 H':Hp} {Q:VK} {p:Addr} {e a b o:Expr} {pos apos np:Pos} {i:Nat} {D:Ends}
def qt (a:A3):I3:=fun s h=>(a s h).bind fun fs h1=>match fs with
 | [.x (.int j)]=>if -(2 ^ 62)<=j/\j<2 ^ 62 then .ok ⟨[],(List.range j.toNat).map fun k=>.int (0+(k:Nat)),fun _=>True⟩ h1 else .no
 |_=>.no
def Qn {lo:Int} {n:Nat}:IR κ ⟨[],(List.range n).map fun k=>.int (lo+(k:Nat)),fun _=>True⟩ [] (Itr lo n):=fun F σ H rel _ _ i=>by
 have el:((List.range n).map fun k=>V3.int (lo+(k:Nat))).length=n:=by simp
 refine⟨fun hi=>⟨show i<n by rw[el]at hi;exact hi,fun x H' ⟨e1,e2⟩=>?_⟩,fun hi=>show n<=i by rw[el]at hi;exact hi⟩
 subst e1;subst e2;have hi:i<n:=by simpa using hi
 exact⟨.int (lo+i),by simp[hi],Ext.refl,rel,.int _⟩
def EJ {tg:Expr} {t:A3} (hg:Gl X "range") (hm:X.mg "range" =none) (ha:PA X [a] (zG κ E t)) (hs:starEach [a] X.env=[(false,eval a X.env)]:=by rfl):PI X tg (.Call (.Name "range" np) [a] [] pos) (tiOf κ E (qt t)):=PIw (Nm hg hm ha hs) fun σ H R ⟨F,rel,o⟩=>
 (z7 (K:=kA κ) km_I rel o).mono fun vs H1 ⟨β1,h1,fs,e1,⟨r1,rf⟩,o1⟩=>by
  match fs,rf,o1 with
  | [.x (.int j)],rf,o1=>
   obtain⟨v,rfl,rv⟩:=p1 rf;cases (show Rep κ β1 F.O H1 (.int j) v from rv)
   by_cases hj: -(2 ^ 62)<=j/\j<2 ^ 62
   .simp only[Aa hj]at o1
    exact⟨j,rfl,hj.1,hj.2,o1 β1 _ H1 Ext.refl ⟨r1,[],.nil,Qn⟩⟩
   .simp only[Ab hj]at o1;exact o1.elim
def EK (a:A3):I3:=fun s h=>(a s h).bind fun fs h1=>match fs with
 | [.x x]=>match y9 h1 x with
  |some (xs,ok)=>.ok ⟨[x],(List.range xs.length).map fun k=>.tup [.int (k:Nat),xs.getD k .non],ok⟩ h1
  |none=>.no
 |_=>.no
def Rel.tup2 {x y:V3} {v w:V} {T:Addr} (rel:Rel κ F σ H) (hT:H T=none) (rx:Rep κ F.β F.O H x v) (ry:Rep κ F.β F.O H y w):Ext No F.β H F.β (zh H T (.tup [v,w]))/\Rel κ F σ (zh H T (.tup [v,w]))/\Rep κ F.β F.O (zh H T (.tup [v,w])) (.tup [x,y]) (.ref T):=by
 have q:=Post.tup (N:=No) rel hT (.cons rx (.cons ry .nil));exact⟨yh hT,q.1,q.2⟩
def KI {elts:List Expr} {x1} {tp:Pos} {t:A3} (hK:X.K=κ.K) (hg:Gl X "enumerate") (hm:X.mg "enumerate" =none) (ha:PA X [a] (zG κ E t)) (hs:starEach [a] X.env=[(false,eval a X.env)]:=by rfl):PI X (.Tuple elts x1 tp) (.Call (.Name "enumerate" np) [a] [] pos) (tiOf κ E (EK t)):=PIw (PD hg hm ha hs) fun σ H R ⟨F,rel,o⟩=>
 (z7 (K:=kA κ) km_I rel o).mono fun vs H1 ⟨β1,h1,fs,e1,⟨r1,rf⟩,o1⟩=>by
  match fs,rf,o1 with
  | [.x x],rf,o1=>
   obtain⟨v,rfl,rv⟩:=p1 rf;have rv:Rep κ β1 F.O H1 x v:=rv;cases q:y9 h1 x with
   |none=>simp only[q]at o1;exact o1.elim
   |some w=>
    obtain⟨xs,ok⟩:=w;simp only[q]at o1;obtain⟨c,ys,rfl,sq,rs⟩:=G8 (F:=F.to β1 h1) q r1 rv (EE q).1;rw[hK]
    refine⟨c,ys,rfl,sq,o1 β1 _ H1 Ext.refl ⟨r1,[.ref c],.cons rv .nil,fun F' σ' H' rel' r' hk i=>?_⟩⟩
    cases r' with
    |cons r'' _=>
     obtain⟨c',ys',ec,sq',rs'⟩:=G8 q rel' r'' hk;cases ec;have hl:=rs'.length;have el:(((List.range xs.length).map fun k=>V3.tup [.int (k:Nat),xs.getD k .non])).length=xs.length:=by simp
     refine⟨fun hi=>?_,fun hi=>⟨ys',sq',by rw[<-hl];rw[el]at hi;exact hi⟩⟩
     rw[el]at hi;obtain⟨y,hy,ry⟩:=rs'.get (z0 hi)
     refine⟨⟨ys',y,sq',hy⟩,fun x' H'' yl=>?_⟩
     obtain⟨T,z,rfl,hT,rfl,hz⟩:=yl;have:=hz ys' sq';rw[hy]at this;cases this;obtain⟨q1,q2,q3⟩:=Rel.tup2 (x:= .int (i:Nat)) (v:= .int (i:Nat)) rel' hT (.int _) ry
     refine⟨.tup [.int (i:Nat),xs[i]],?_,q1,q2,q3⟩
     simp[hi]
noncomputable def yC (n:Nat) (fr:List Nat) (s:S3):S3:=List.replicate n none++fr.map fun j=>match s[j]? with
 |some (some (.v x))=>some (.v x)
 |_=>none
open Classical in
def qe (ok:H3->Prop) (g:G3) (c:T3) (e:E3):List V3->List V3->S3->H3->Res (List V3)
 | [],acc,_,h=>if ok h then .ok acc h else .no
 |x::r,acc,s,h=>if ok h then match g x s with
  |none=>.no
  |some s1=>match c s1 h with
   |.ok true h1=>match e s1 h1 with
    |.ok v h2=>match v.fz with
     |some y=>if acc.length<sizeLine then qe ok g c e r (acc++[y]) s1 h2 else .no
     |none=>.no
    |_=>.no
   |.ok false h1=>qe ok g c e r acc s1 h1
   |_=>.no
  else .no
def qf (n:Nat) (fr:List Nat) (it:I3) (g:G3) (c:T3) (e:E3):E3:=fun s h=>(it s h).bind fun I h1=>(qe I.ok g c e I.xs [] (yC n fr s) h1).bind fun vs h2=>.ok (.m (.lst vs)) h2
def tTru:T3:=fun _ h=>.ok true h
def BC:PTs X [] (zQ κ E tTru):=fun pins s σ H Q I ⟨F,rel,o⟩=>O0 pins s σ H Q I (o F.β true H Ext.refl ⟨rfl,rel⟩)
def CU {β:AO} {d:Addr} {o:HO} (ho:∃u,H d=some u):Ext (fun a=>a=d) β H β (zh H d o):=
 ⟨fun a u ha hn m=>⟨by rw[zj m];exact ha,hn⟩,Nat.le_refl _,fun _ _ _ h=>h,fun a u ha=>by
  by_cases z:a=d
  .subst z;exact⟨o,zF⟩
  .exact⟨u,by rw[zj z];exact ha⟩,nwb0⟩
def RelH.wrO {O:Addr->Prop} {β:AO} {h:H3} {d:Addr} {u:HO} (r:RelH κ O β h H) (hd:O d) (hu:∀ys,u≠HO.tup ys:=by intro _ z;cases z):RelH κ O β h (zh H d u):=by
 have ex:=CU (β:=β) (o:=u) (r.trk' d hd);have th:∀a w,H a=some w->(∀ys,w≠HO.tup ys)->∃w,zh H d u a=some w/\∀ys,w≠HO.tup ys:=fun a w q n=>by
  by_cases z:a=d
  .subst z;exact⟨u,zF,hu⟩
  .exact⟨w,by rw[zj z];exact q,n⟩
 refine⟨r.len,r.inj,r.off,fun a ha=>let ⟨w,q,n⟩:=r.trk a ha;th a w q n,fun i a q=>let ⟨w,z,n⟩:=r.btr i a q;th a w z n,fun i c hc=>(r.cell i c hc).imp id fun ⟨a,ha,q⟩=>⟨a,ha,q.ext ex (fun b hb=>by rw[hb];exact hd) (fun _ _ _ n=>n) fun w hw=>?_⟩⟩
 rw[zj (fun z=>by subst z;exact r.off a hd (Am ha))];exact hw
def Rel.wrOi {d:Addr} {u:HO} (r:Rel κ F σ H) (hd:F.Oi d) (hu:∀ys,u≠HO.tup ys:=by intro _ z;cases z):Rel κ F σ (zh H d u) where
 heap:=r.heap.wrO (.inr (.inr hd)) hu
 slen:=r.slen
 llen:=r.llen
 linj:=r.linj
 lt:=r.lt
 lo:=r.lo
 to:=r.to
 tn:=r.tn
 slot:=fun i x q=>by
  have hO:F.O d:= .inr (.inr hd);have ex:=CU (β:=F.β) (o:=u) (r.heap.trk' d hO);obtain⟨v,h1,h2⟩:=r.slot i x q
  refine⟨v,h1,?_⟩
  cases x with
  |v x=>exact Rep.ext ex (fun b hb=>by rw[hb];exact hO) (fun _ _ _ n=>n) h2
  |m c=>
   obtain⟨a,a1,a2,a3⟩:=h2
   refine⟨a,a1,a2,a3.ext ex (fun b hb=>by rw[hb];exact hO) (fun _ _ _ n=>n) fun w hw=>?_⟩
   rw[zj (fun z=>by subst z;exact r.lo a (Am a1) hd)];exact hw
def Qo {n:Nat} {fr:List Nat} {s:S3} {i:Nat} {x:Vl} (h:(yC n fr s)[i]? =some (some x)):∃j y,fr[i-n]? =some j/\n<=i/\s[j]? =some (some (.v y))/\x=.v y:=by
 unfold yC at h
 by_cases hi:i<n
 .rw[A8 (by simpa using hi),Ex]at h
  split at h<;>cases h
 .rw[Bk (by simpa using hi),B2,Bl]at h
  cases q:fr[i-n]? with
  |none=>rw[q]at h;cases h
  |some j=>
   rw[q]at h;simp only[A4,Dx]at h
   split at h
   .rename_i y hy;cases h;exact⟨j,y,rfl,by lia,hy,rfl⟩
   .cases h
def KJ {n:Nat} {fr:List Nat} {it:I3} {g:G3} {c:T3} {d:E3} (h:zi κ E (qf n fr it g c d) σ H Q):Gq (tiOf κ E it) n fr (yF κ g) (zQ κ E0 c) (zi κ E0 d) σ H Q:=by
 obtain⟨F,rel,o⟩:=h
 refine (z7 (K:=kI κ) zM rel o).mono fun J H1 ⟨β1,h1,I,e1,⟨r1,vs,rv,ir⟩,o1⟩=>fun D hD=>?_
 have hDH:H D=none:=e1.nw D hD
 let Oi:Addr->Prop:=fun a=>a=D\/F.O a
 have rn:=(r1.new (o:= .lst []) hD);have rh1:RelH κ Oi β1 h1 (zh H1 D (.lst [])):=rn.1.heap.sub fun a ha=>ha.elim (fun z=>.inl (by rw[z];exact Ax)) fun z=>Fr.O_with z
 have hO1:∀a u,H1 a=some u->¬F.O a->¬Oi a:=fun a u ha n z=>z.elim (fun w=>by subst w;rw[hD]at ha;cases ha) n
 let F0:Fr:=⟨Oi,[],β1,List.replicate (yC n fr F.s).length none,yC n fr F.s,h1⟩
 have sub0:∀(F':Fr),F'.T=[]->(∀a,some a∉F'.l)->F'.Oi=Oi->∀a,F'.O a->Oi a:=fun F' t l oi a ha=>by
  rcases ha with z|z|z
  .rw[t]at z;cases z
  .exact absurd z (l a)
  .rw[oi]at z;exact z
 have hlen:(yC n fr F.s).length=(cst n fr σ).length:=by unfold yC cst;simp
 have rel0:Rel κ F0 (cst n fr σ) (zh H1 D (.lst [])):=by
  refine⟨rh1.sub (sub0 F0 rfl (fun a=>qE) rfl),hlen,?_,fun i j a h=>absurd (Am h) qE,fun a ha=>absurd ha qE,fun a ha=>absurd ha qE,fun a ha=>(by cases ha),Fb,fun i x hx=>?_⟩
  .show (List.replicate (yC n fr F.s).length (none:Option Addr)).length=(yC n fr F.s).length
   simp
  .obtain⟨j,y,hj,hi,hy,rfl⟩:=Qo hx
   obtain⟨v,hv,rv⟩:=r1.slot j _ hy
   refine⟨v,?_,Rep.sub (sub0 F0 rfl (fun a=>qE) rfl) (Rep.ext (yh hD) (fun _ z=>z.elim) hO1 (show Rep κ β1 F.O H1 y v from rv))⟩
   unfold cst;rw[Bk (by simpa using hi),B2,Bl,hj]
   simp[hv]
 have rv0:Reps κ β1 Oi (zh H1 D (.lst [])) I.its vs:=rv.ext (yh hD) (fun _ z=>z.elim) hO1
 refine⟨fun i m acc σ' H'=>m=I.xs.length-i/\i<=I.xs.length/\H' D=some (.lst acc)/\∃(F':Fr) (acc3:List V3),Rel κ F' σ' H'/\F'.T=[]/\(∀a,some a∉F'.l)/\F'.Oi=Oi/\Reps κ F'.β Oi H' I.its vs/\Reps κ F'.β Oi H' acc3 acc/\Ext No β1 H1 F'.β H'/\
   Out κ E (kE κ) (F.to β1 h1) σ H1 Q ((qe I.ok g c d (I.xs.drop i) acc3 F'.s F'.h).bind fun vs h2=>.ok (.m (.lst vs)) h2),
  ⟨_,rfl,B9 _,zF,F0,[],rel0,rfl,fun a=>qE,rfl,rv0,.nil,yh hD,o1⟩,?_⟩
 rintro i m acc σ' H' ⟨rfl,hi,hacc,F',acc3,rel',ht,hl,hoi,rits,racc,ex,out⟩
 refine⟨hacc,?_⟩
 have hO:∀a,F'.O a↔Oi a:=fun a=>⟨sub0 F' ht hl hoi a,fun z=>.inr (.inr (by rw[hoi];exact z))⟩
 have eO:F'.O=Oi:=funext fun a=>propext (hO a)
 by_cases hok:I.ok F'.h
 case neg=>
  exfalso
  cases q:I.xs.drop i with
  |nil=>rw[q]at out;unfold qe at out;rw[Ab hok]at out;exact out
  |cons x r=>rw[q]at out;unfold qe at out;rw[Ab hok]at out;exact out
 obtain⟨i1,i2⟩:=ir F' σ' H' rel' (by rw[eO];exact rits) hok i
 by_cases hlt:i<I.xs.length
 .obtain⟨go,yl⟩:=i1 hlt
  refine .inr ⟨go,fun acc' σ3 H5=>H5 D=some (.lst acc')/\∃(F':Fr) (acc3:List V3),Rel κ F' σ3 H5/\F'.T=[]/\(∀a,some a∉F'.l)/\F'.Oi=Oi/\Reps κ F'.β Oi H5 I.its vs/\Reps κ F'.β Oi H5 acc3 acc'/\Ext No β1 H1 F'.β H5/\
   Out κ E (kE κ) (F.to β1 h1) σ H1 Q ((qe I.ok g c d (I.xs.drop (i+1)) acc3 F'.s F'.h).bind fun vs h2=>.ok (.m (.lst vs)) h2),fun acc' σ3 H5 n5=>⟨_,by lia,rfl,hlt,n5⟩,fun x H2 y=>?_⟩
  obtain⟨x3,ex3,ey,ry,rp⟩:=yl x H2 y;have hd:I.xs.drop i=x3::I.xs.drop (i+1):=by
   rw[Ef hlt]
   congr 1
   rw[z0 hlt]at ex3;exact Option.some.inj ex3
  rw[hd]at out;unfold qe at out;rw[Aa hok]at out;cases w:g x3 F'.s with
  |none=>simp only[w]at out;exact out.elim
  |some s1=>
   simp only[w]at out
   refine⟨F',x3,s1,ry,ht,rp,w,fun F3 σ3 e3 b3 s3 h3 r3=>?_⟩
   have hl3:∀a,some a∉F3.l:=fun a ha=>by
    rcases e3.lam a ha with z|z
    .exact hl a z
    .obtain⟨k,hk⟩:=Cw ha
     obtain⟨u,hu,_⟩:=r3.heap.trk a (.inr (.inl ha));rw[z]at hu;cases hu
   have hoi3:F3.Oi=Oi:=e3.oi.trans hoi;have eO3:F3.O=Oi:=funext fun a=>propext ⟨sub0 F3 e3.tt hl3 hoi3 a,fun z=>.inr (.inr (by rw[hoi3];exact z))⟩
   refine⟨F3,r3,?_⟩
   rw[s3,h3];cases q:c s1 F'.h with
   |no=>simp only[q]at out;exact out.elim
   |ex x h2=>simp only[q]at out;exact out.elim
   |ok cb h2=>
    simp only[q]at out;rintro β4 cb' H4 e4 ⟨rfl,r4⟩;have ex4:Ext No β1 H1 β4 H4:=(ex.trans0 ey).trans0 (by rw[b3]at e4;exact e4)
    have k4:∀{x:List V3} {v:List V},Reps κ F'.β Oi H' x v->Reps κ β4 Oi H4 x v:=fun r=>(r.ext0 ey).ext0 (by rw[b3]at e4;exact e4)
    have hD2:H2 D=some (.lst acc):=(ey.keep D _ hacc (rel'.heap.off D ((hO D).mpr (.inl rfl))) fun z=>z).1
    have hD4:H4 D=some (.lst acc):=(e4.keep D _ hD2 (r3.heap.off D (by rw[eO3];exact .inl rfl)) fun z=>z).1
    cases cb' with
    |false=>rw[Ab A2];exact⟨hD4,F3.to β4 h2,acc3,r4,e3.tt,hl3,hoi3,k4 rits,k4 racc,ex4,by show Out _ _ _ _ _ _ _ ((qe I.ok g c d (I.xs.drop (i+1)) acc3 F3.s h2).bind _);rw[s3];exact out⟩
    |true=>
     rw[Aa rfl]
     refine⟨F3.to β4 h2,r4,?_⟩
     show Out κ E0 (kE κ) (F3.to β4 h2) σ3 H4 _ (d F3.s h2);rw[s3];cases q5:d s1 h2 with
     |no=>simp only[q5]at out;exact out.elim
     |ex x h5=>simp only[q5]at out;exact out.elim
     |ok r5 h5=>
      simp only[q5]at out;intro β5 v5 H5 e5 p5;cases z:r5.fz with
      |none=>simp only[z]at out;exact out.elim
      |some y5=>
       simp only[z]at out
       by_cases hsz:acc3.length<sizeLine
       .rw[Aa hsz]at out
        obtain⟨r6,rep6⟩:=Post.fz p5 z;have hD5:H5 D=some (.lst acc):=(e5.keep D _ hD4 (r4.heap.off D (.inr (.inr (by show F3.Oi D;rw[hoi3];exact .inl rfl)))) fun z=>z).1
        have ex6:Ext (fun a=>a=D) β5 H5 β5 (zh H5 D (.lst (acc++[v5]))):=CU ⟨_,hD5⟩
        have k6:∀{x:List V3} {v:List V},Reps κ β5 Oi H5 x v->Reps κ β5 Oi (zh H5 D (.lst (acc++[v5]))) x v:=fun r=>r.ext ex6 (fun b hb=>by rw[hb];exact .inl rfl) fun _ _ _ n=>n
        have rep6:Rep κ β5 Oi H5 y5 v5:=by
         have e:((F3.to β4 h2).to β5 h5).O=Oi:=eO3;have q:Rep κ β5 ((F3.to β4 h2).to β5 h5).O H5 y5 v5:=rep6;rw[e]at q;exact q
        have k45:∀{x:List V3} {v:List V},Reps κ β4 Oi H4 x v->Reps κ β5 Oi H5 x v:=fun r=>r.ext0 e5
        refine⟨hD5,by rw[<-racc.length];exact hsz,zF,(F3.to β4 h2).to β5 h5,acc3++[y5],Rel.wrOi r6 (by show F3.Oi D;rw[hoi3];exact .inl rfl),e3.tt,hl3,hoi3,k6 (k45 (k4 rits)),k6 ((k45 (k4 racc)).append (.cons rep6 .nil)),?_,?_⟩
        .have e45:=ex4.trans0 e5
         refine⟨fun a u ha hn _=>?_,e45.len,e45.bet,fun a u ha=>?_,e45.nwb⟩
         .obtain⟨q1,q2⟩:=e45.keep a u ha hn fun z=>z
          exact⟨by rw[zj (fun z=>by subst z;rw[hD]at ha;cases ha)];exact q1,q2⟩
         .obtain⟨u',hu'⟩:=e45.there a u ha
          exact ex6.there a u' hu'
        .show Out _ _ _ _ _ _ _ ((qe I.ok g c d (I.xs.drop (i+1)) (acc3++[y5]) F3.s h5).bind _)
         rw[s3];exact out
       .rw[Ab hsz]at out;exact out.elim
 .have hi:i=I.xs.length:=by lia
  subst hi;rw[Cu]at out;unfold qe at out;rw[Aa hok]at out
  refine .inl ⟨i2 (Nat.le_refl _),out F'.β (.ref D) H' ex ?_⟩
  have rh:RelH κ (fun a=>a=D\/(F.to β1 h1).O a) F'.β F'.h H':=rel'.heap.sub fun a ha=>(hO a).mpr ha
  refine⟨D,rfl,Rel.nextNew (F:=F.to β1 h1) r1 ex rh hD,⟨acc,hacc,racc.sub fun a ha=>?_⟩,hD⟩
  rcases ha with z|z
  .rcases Ag.mp z with z|z
   .exact .inl z
   .exact .inr (.inl z)
  .exact .inr (.inr z)
def BZ {elt tg iter:Expr} {ifs:List Expr} {loc free:List Str} {fr:List Nat} {scope:Scope} {it:I3} {g:G3} {c:T3} {d:E3} (hc:X.calm=true) (S:CompScope X loc free fr scope) (hi:PI X tg iter (tiOf κ E it))
 (hg:∀cl C s H ex,PG (yY X (loc++free) scope cl C s H ex) tg (yF κ g)) (ht:∀cl C s H ex,PTs (yY X (loc++free) scope cl C s H ex) ifs (zQ κ E0 c)) (he:∀cl C s H ex,PE (yY X (loc++free) scope cl C s H ex) elt (zi κ E0 d))
 (hs:∀x,foldedSetIterable iter X.env x=pure x:=by intro _;rfl):PE X (.ListComp elt [⟨tg,iter,ifs,0⟩] scope pos) (zi κ E (qf loc.length fr it g c d)):=yu (O1 hc S hi hg ht he hs) fun _ _ _ h=>KJ h
def Qp {y:Str} {py spos:Pos} {elt tg iter:Expr} {ifs:List Expr} {loc free:List Str} {fr:List Nat} {scope:Scope} {it:I3} {g:G3} {c:T3} {d:E3} (hN:X.N.Nodup) (hi':X.N[i]? =some y) (hx:X.env.scope.names.lookup y=some .local) (hc:X.calm=true) (S:CompScope X loc free fr scope) (hi:PI X tg iter (tiOf κ E it))
 (hg:∀cl C s H ex,PG (yY X (loc++free) scope cl C s H ex) tg (yF κ g)) (ht:∀cl C s H ex,PTs (yY X (loc++free) scope cl C s H ex) ifs (zQ κ E0 c)) (he:∀cl C s H ex,PE (yY X (loc++free) scope cl C s H ex) elt (zi κ E0 d))
 (hs:∀x,foldedSetIterable iter X.env x=pure x:=by intro _;rfl) (hsw:swapsWith (.ListComp elt [⟨tg,iter,ifs,0⟩] scope pos) (some (.Name y py)) spos.line X.env=pure true:=by rfl):
 PS X (.Assign [.Name y py] (.ListComp elt [⟨tg,iter,ifs,0⟩] scope pos) spos) (zl κ E (sSet i (qf loc.length fr it g c d))):=qo (O2 hN hi' hx hc S hi hg ht he hs hsw) fun D σ H h=>KJ (Ku h)
end
section
variable {X:Cx} {κ:Kx} {E:XK} {F F':Fr} {σ σ':L2.St} {H H1 H':Hp} {Q:VK} {p:Addr} {e a b c o:Expr} {pos apos np cpos:Pos} {i:Nat} {D:Ends}
def eNeg (p:P3):E3:=fun s h=>(p s h).bind fun f h1=>match f with
 |.x (.int i)=>.ok (.v (.int (-i))) h1
 |_=>.no
def BD {d:P3} (ha:PE X a (zt κ E d)):PE X (.UnaryOp .USub a pos) (zi κ E (eNeg d)):=yu (Nr Nt ha) fun σ H Q ⟨F,rel,o⟩=>
 (z7 (K:=kP κ) zM rel o).mono fun v H1 ⟨β1,h1,f,e1,⟨r1,rf⟩,o1⟩=>by
  match f,rf,o1 with
  |.x (.int i),rf,o1=>
   cases (show Rep κ β1 F.O H1 (.int i) v from rf)
   exact⟨i,rfl,o1 β1 _ H1 Ext.refl ⟨r1,.int _⟩⟩
def eChain (f g:F2) (a b c:P3):E3:=fun s h=>(a s h).bind fun x h1=>(b s h1).bind fun y h2=>match f s h2 x y with
 |some (.v (.bl true))=>(c s h2).bind fun z h3=>opt h3 (g s h3 y z)
 |some (.v (.bl false))=>.ok (.v (.bl false)) h2
 |_=>.no
def Qq {r r':R2} {f g:F2} {da db dc:P3} (hs:OpSim κ r f) (hs':OpSim κ r' g) (h:zi κ E (eChain f g da db dc) σ H Q):J0 r r' (zt κ E da) (zt κ E db) (zt κ E dc) σ H Q:=by
 obtain⟨F,rel,o⟩:=h
 refine (z7 (K:=kP κ) zM rel o).mono fun v H1 ⟨β1,h1,f1,e1,⟨r1,rf1⟩,o1⟩=>?_
 refine (z7 (F:=F.to β1 h1) (K:=kP κ) zM r1 o1).mono fun w H2 ⟨β2,h2,f2,e2,⟨r2,rf2⟩,o2⟩=>?_
 have rf1':=RfR.ext (F:=F.to β1 h1) (β':=β2) (h':=h2) r1 e2 rf1;cases q:f F.s h2 f1 f2 with
 |none=>simp only[q]at o2;exact o2.elim
 |some z=>
  refine hs (F.to β2 h2) σ H2 f1 f2 z v w _ r2 rf1' rf2 q fun u H' e p=>?_
  match z,q,p with
  |.v (.bl true),q,p=>
   simp only[q]at o2;cases (show Rep κ β2 F.O H' (.bl true) u from p.2)
   refine⟨true,rfl,?_⟩
   rw[Aa rfl];have o3:=Out.move (F:=F.to β2 h2) (h':=h2) zM e o2
   refine (z7 (F:=F.to β2 h2) (K:=kP κ) zM p.1 o3).mono fun w3 H3 ⟨β3,h3,f3,e3,⟨r3,rf3⟩,o4⟩=>?_
   obtain⟨z',q',k⟩:=Out.opt (F:=F.to β3 h3) rfl o4;exact hs' (F.to β3 h3) σ H3 f2 f3 z' w w3 Q r3 (RfR.ext (F:=F.to β2 h2) (β':=β3) (h':=h3) p.1 e3 (RfR.ext (F:=F.to β2 h2) (β':=β2) (h':=h2) r2 e rf2)) rf3 q' k
  |.v (.bl false),q,p=>
   simp only[q]at o2;cases (show Rep κ β2 F.O H' (.bl false) u from p.2)
   refine⟨false,rfl,?_⟩
   rw[Ab A2];exact o2 β2 _ H' e ⟨p.1,.bl _⟩
  |.v .non,q,p=>simp only[q]at o2;exact o2.elim
  |.v (.int _),q,p=>simp only[q]at o2;exact o2.elim
  |.v (.str _),q,p=>simp only[q]at o2;exact o2.elim
  |.v (.ty _),q,p=>simp only[q]at o2;exact o2.elim
  |.v (.tup _),q,p=>simp only[q]at o2;exact o2.elim
  |.v (.lst _),q,p=>simp only[q]at o2;exact o2.elim
  |.v (.scr _),q,p=>simp only[q]at o2;exact o2.elim
  |.v (.dK _),q,p=>simp only[q]at o2;exact o2.elim
  |.v (.dT _),q,p=>simp only[q]at o2;exact o2.elim
  |.v (.obj _ _),q,p=>simp only[q]at o2;exact o2.elim
  |.v (.cls _),q,p=>simp only[q]at o2;exact o2.elim
  |.v (.fn _ _),q,p=>simp only[q]at o2;exact o2.elim
  |.v (.loc _),q,p=>simp only[q]at o2;exact o2.elim
  |.m _,q,p=>simp only[q]at o2;exact o2.elim
def Qr {op op':CmpOp} {r r':R2} {f g:F2} {da db dc:P3} (hs:OpSim κ r f) (hs':OpSim κ r' g) (ho:OpR X (compareOp op) r) (ho':OpR X (compareOp op') r') (ha:PE X a (zt κ E da)) (hb:PE X b (zt κ E db)) (hc:PE X c (zt κ E dc))
 (hm:lastMarks [op,op'] [b,c]=false:=by with_unfolding_all rfl):PE X (.Compare a [op,op'] [b,c] pos) (zi κ E (eChain f g da db dc)):=yu (N0 ho ho' ha hb hc hm) fun _ _ _ h=>Qq hs hs' h
abbrev Po3:=S3->H3->Res (Option Int)
def kO (κ:Kx):Kd (Option Int) (Option Int):=fun _ F σ H' i j=>j=i/\Rel κ F σ H'
def km_O:AX (kO κ):=fun _ _ _ _ _ _ _ _ _ _ _ h=>h
abbrev toOf (κ:Kx) (E:XK) (d:Po3):TO:=tOf κ E (kO κ) d
noncomputable def poN:Po3:=fun _ h=>.ok none h
def poS (p:P3):Po3:=fun s h=>(p s h).bind fun f h1=>match f with
 |.x (.int i)=>.ok (some i) h1
 |_=>.no
def POw {e:Option Expr} {t t':TO} (h:PO X e t) (w:∀σ H Q,t' σ H Q->t σ H Q):PO X e t':=fun pins s σ H Q I q=>h pins s σ H Q I (w σ H Q q)
def KL:PO X none (toOf κ E poN):=POw NX fun σ H Q ⟨F,rel,o⟩=>o F.β none H Ext.refl ⟨rfl,rel⟩
def KM {d:P3} (ha:PE X a (zt κ E d)):PO X (some a) (toOf κ E (poS d)):=POw (NY ha) fun σ H Q ⟨F,rel,o⟩=>
 (z7 (K:=kP κ) km_O rel o).mono fun v H1 ⟨β1,h1,f,e1,⟨r1,rf⟩,o1⟩=>by
  match f,rf,o1 with
  |.x (.int i),rf,o1=>
   cases (show Rep κ β1 F.O H1 (.int i) v from rf)
   exact⟨i,rfl,o1 β1 _ H1 Ext.refl ⟨rfl,r1⟩⟩
def cutL {α:Type} (xs:List α) (lo hi:Option Int):List α:=(xs.drop (HT.sIx xs.length 0 lo)).take (HT.sIx xs.length xs.length hi-HT.sIx xs.length 0 lo)
def oSl (s:S3) (h:H3) (lo hi:Option Int):Rf->Option Vl
 |.x (.tup xs)=>if HT.sIx xs.length 0 lo=0/\HT.sIx xs.length xs.length hi=xs.length then none else some (.v (.tup (cutL xs lo hi)))
 |.x (.str z)=>if z.length<=sizeLine then some (.v (.str (Txt.slice z lo hi))) else none
 |f=>(rdl s h f).map fun xs=>.m (.lst (cutL xs lo hi))
def eSl (p:P3) (lo hi:Po3):E3:=fun s h=>(p s h).bind fun f h1=>(lo s h1).bind fun l h2=>(hi s h2).bind fun u h3=>opt h3 (oSl s h3 l u f)
def KN {xs:List V3} {ys:List V} {lo hi:Option Int} (r:Reps κ F.β F.O H xs ys):Reps κ F.β F.O H (cutL xs lo hi) (cutV ys lo hi):=by
 unfold cutL cutV;rw[r.length];exact (r.drop _).take _
def r_sl {lo hi:Option Expr} {p2:Pos} {d:P3} {dl dh:Po3} (hK:X.K=κ.K) (he:PE X a (zt κ E d)) (hl:PO X lo (toOf κ E dl)) (hu:PO X hi (toOf κ E dh)):PE X (.Subscript a (.Slice lo hi none p2) pos) (zi κ E (eSl d dl dh)):=
 yu (NZ (sl_tup.or (sl_list.or Pf)) he hl hu) fun σ H Q ⟨F,rel,o⟩=>
 (z7 (K:=kP κ) zM rel o).mono fun v H1 ⟨β1,h1,f,e1,⟨r1,rf⟩,o1⟩=>
 (z7 (F:=F.to β1 h1) (K:=kO κ) zM r1 o1).mono fun l H2 ⟨β2,h2,l',e2,⟨el,r2⟩,o2⟩=>
 (z7 (F:=F.to β2 h2) (K:=kO κ) zM r2 o2).mono fun u H3 ⟨β3,h3,u',e3,⟨eu,r3⟩,o3⟩=>by
  subst el;subst eu;obtain⟨z,q,k⟩:=Out.opt (F:=F.to β3 h3) rfl o3;have rf3:RfR κ (F.to β3 h3) H3 f v:=RfR.ext (F:=F.to β2 h2) (β':=β3) (h':=h3) r2 e3 (RfR.ext (F:=F.to β1 h1) (β':=β2) (h':=h2) r1 e2 rf);rw[hK];have lists:(rdl F.s h3 f).map (fun xs=>Vl.m (.lst (cutL xs l u)))=some z->rSlL κ.K v l u H3 Q:=fun q=>by
   cases q1:rdl F.s h3 f with
   |none=>rw[q1]at q;cases q
   |some xs=>
    rw[q1]at q;cases q;obtain⟨c,ys,rfl,sq,rs⟩:=AK (F:=F.to β3 h3) r3 rf3 q1;exact⟨c,ys,rfl,sq,fun p hp=>k _ _ (yh hp) (Post.lst r3 hp (KN rs))⟩
  match f,rf3,q,lists with
  |.s i,rf3,q,lists=>exact .inr (.inl (lists q))
  |.x (.lst _),rf3,q,lists=>exact .inr (.inl (lists q))
  |.x (.scr _),rf3,q,lists=>exact .inr (.inl (lists q))
  |.x (.loc _),rf3,q,lists=>exact .inr (.inl (lists q))
  |.x (.tup xs),rf3,q,lists=>
   have q:(if HT.sIx xs.length 0 l=0/\HT.sIx xs.length xs.length u=xs.length then none else some (Vl.v (.tup (cutL xs l u))))=some z:=q
   by_cases hw:HT.sIx xs.length 0 l=0/\HT.sIx xs.length xs.length u=xs.length
   .rw[Aa hw]at q;cases q
   .rw[Ab hw]at q;cases q
    cases (show Rep κ β3 F.O H3 (.tup xs) v from rf3) with
    |tup h1 h2 h3' h4=>exact .inl ⟨_,_,rfl,.of h1,by rw[<-h4.length];exact hw,fun p hp=>k _ _ (yh hp) (Post.tup r3 hp (KN (F:=F.to β3 h3) h4))⟩
  |.x (.str zz),rf3,q,lists=>
   obtain⟨hz,rfl⟩:=ql q;cases (show Rep κ β3 F.O H3 (.str zz) v from rf3)
   exact .inr (.inr ⟨zz,rfl,hz,k _ H3 Ext.refl ⟨r3,.str _⟩⟩)
noncomputable def wr3 (s:S3) (h:H3) (c:C3):Rf->Option (S3×H3)
 |.s i=>some (s.set i (some (.m c)),h)
 |.x (.loc n)=>some (s,h.set n c)
 |_=>none
def Rel.wrSlot {l:Addr} {c0 c':C3} {u:HO} (rel:Rel κ F σ H) (hl:F.l[i]? =some (some l)) (hs:F.s[i]? =some (some (.m c0))) (hc:CellR κ F.β F.O (zh H l u) c' l):
  Rel κ {F with s:=F.s.set i (some (.m c'))} σ (zh H l u):=by
 have hO:F.O l:= .inr (.inl (Am hl));have ex:=CU (β:=F.β) (o:=u) (rel.heap.trk' l hO)
 refine⟨rel.heap.wrO hO hc.nt,?_,?_,rel.linj,rel.lt,rel.lo,rel.to,rel.tn,fun j y hj=>?_⟩
 .show (F.s.set i _).length=_;rw[Bb];exact rel.slen
 .show F.l.length=(F.s.set i _).length;rw[Bb];exact rel.llen
 .rcases qL hj with ⟨e1,e2⟩|⟨n,z⟩
  .subst e1;cases e2
   obtain⟨v,h1,a,h2,h3,_⟩:=rel.slot i _ hs;rw[hl]at h2;cases h2;exact⟨v,h1,l,hl,h3,hc⟩
  .obtain⟨v,h1,h2⟩:=rel.slot j y z
   refine⟨v,h1,?_⟩
   cases y with
   |v x=>exact Rep.ext ex (fun b hb=>by rw[hb];exact hO) (fun _ _ _ n=>n) h2
   |m c=>
    obtain⟨a,a1,a2,a3⟩:=h2
    refine⟨a,a1,a2,a3.ext ex (fun b hb=>by rw[hb];exact hO) (fun _ _ _ n=>n) fun w hw=>?_⟩
    rw[zj (fun z=>by subst z;exact n (rel.linj i j a hl a1))];exact hw
def GJ {β:AO} {l:Addr} {o:HO} {n:Nat} (hb:β[n]? =some (some l)) (ho:∃u,H l=some u):Ext No β H β (zh H l o):=
 ⟨fun a u ha hn _=>⟨by rw[zj (fun z=>by subst z;exact hn (Am hb))];exact ha,hn⟩,Nat.le_refl _,fun _ _ _ h=>h,fun a u ha=>by
  by_cases z:a=l
  .subst z;exact⟨o,zF⟩
  .exact⟨u,by rw[zj z];exact ha⟩,nwb0⟩
def RelH.wrLoc {O:Addr->Prop} {β:AO} {h:H3} {l:Addr} {n:Nat} {c':C3} {u:HO} (r:RelH κ O β h H) (hb:β[n]? =some (some l)) (hc:CellR κ β O (zh H l u) c' l):RelH κ O β (h.set n c') (zh H l u):=by
 have ex:=GJ (o:=u) hb (r.btr' n l hb);have th:∀a w,H a=some w->(∀ys,w≠HO.tup ys)->∃w,zh H l u a=some w/\∀ys,w≠HO.tup ys:=fun a w q n=>by
  by_cases z:a=l
  .subst z;exact⟨u,zF,hc.nt⟩
  .exact⟨w,by rw[zj z];exact q,n⟩
 refine⟨by rw[Bb];exact r.len,r.inj,r.off,fun a ha=>let ⟨w,q,n⟩:=r.trk a ha;th a w q n,fun i a q=>let ⟨w,z,n⟩:=r.btr i a q;th a w z n,fun i c hi=>?_⟩
 rcases qL hi with ⟨e1,e2⟩|⟨ne,z⟩
 .subst e1;subst e2;exact .inr ⟨l,hb,hc⟩
 .refine (r.cell i c z).imp id fun ⟨a,ha,q⟩=>⟨a,ha,q.ext ex (fun _ z=>z.elim) (fun _ _ _ n=>n) fun w hw=>?_⟩
  rw[zj (fun z=>by subst z;exact ne (r.inj n i a hb ha))];exact hw
def KO {f:Rf} {v:V} {xs ys:List V3} {s':S3} {h':H3} (ht:F.T=[]) (rel:Rel κ F σ H) (r:RfR κ F H f v) (e:rdm F.s F.h f=some xs) (hw:wr3 F.s F.h (.lst ys) f=some (s',h')):
  ∃l us,v=.ref l/\H l=some (.lst us)/\Reps κ F.β F.O H xs us/\∀ws,Reps κ F.β F.O H ys ws->∃F',SExt F H F' (zh H l (.lst ws))/\F'.s=s'/\F'.h=h'/\Rel κ F' σ (zh H l (.lst ws)):=by
 cases f with
 |s i=>
  cases hw;obtain⟨a,c,h1,h2,h3,h4⟩:=r;have e:rdl F.s F.h (.s i)=some xs:=e;simp only[rdl,h3]at e;cases c<;>simp at e
  subst e;obtain⟨us,h5,h6⟩:=h4;have hO:F.O a:= .inr (.inl (Am h1))
  refine⟨a,us,h2,h5,h6,fun ws hr=>⟨{F with s:=F.s.set i (some (.m (.lst ys)))},⟨⟨fun b u hb hn m=>⟨by rw[zj (fun z=>by subst z;exact m (Am h1))];exact hb,hn⟩,Nat.le_refl _,fun _ _ _ h=>h,(CU (β:=F.β) ⟨_,h5⟩).there,nwb0⟩,fun _ h=>.inl h,rfl,ht⟩,rfl,rfl,rel.wrSlot h1 h3 ⟨ws,zF,hr.ext (CU (β:=F.β) ⟨_,h5⟩) (fun b hb=>by rw[hb];exact hO) fun _ _ _ n=>n⟩⟩⟩
 |x y=>
  cases y<;>simp[wr3]at hw
  case loc n=>
   obtain⟨rfl,rfl⟩:=hw;cases r with
   |loc h1 h2=>
    have e:rdl F.s F.h (.x (.loc n))=some xs:=e;simp only[rdl]at e;cases q:F.h[n]? with
    |none=>rw[q]at e;cases e
    |some c=>
     rw[q]at e;cases c<;>simp at e
     subst e
     rcases rel.heap.cell n _ q with z|⟨a,ha,us,h5,h6⟩
     .cases z
     .have ex:=fun o=>GJ (o:=o) ha ⟨_,h5⟩
      refine⟨a,us,h2 a ha,h5,h6,fun ws hr=>⟨F.to F.β (F.h.set n (.lst ys)),SExt.of0 ht (ex _),rfl,rfl,rel.next (ex _) (rel.heap.wrLoc ha ⟨ws,zF,hr.ext0 (ex _)⟩)⟩⟩
abbrev FM:=List V3->List V3->Option (List V3×V3)
def mtO (op:FM) (p:P3) (a:A3) (k:S3->H3->V3->O3):D3:=fun s h=>(p s h).bindS fun f h1=>match rdm s h1 f with
 |none=>.no
 |some _=>(a s h1).bindS fun fs h2=>match vals3 fs,rdm s h2 f with
  |some vs,some xs=>match op xs vs with
   |some (ys,r)=>match wr3 s h2 (.lst ys) f with
    |some (s3,h3)=>k s3 h3 r
    |none=>.no
   |none=>.no
  |_,_=>.no
def qJ (op:FM) (p:P3) (a:A3):D3:=mtO op p a fun s h _=>.nx s h
def EL (κ:Kx) (r:V->List V->Hp->VK->Prop) (op:FM):Prop:=∀(β:AO) (O:Addr->Prop) (H:Hp) (l:Addr) (xs ys vs:List V3) (us ws:List V) (rt:V3) (Q:VK),H l=some (.lst us)->Reps κ β O H xs us->Reps κ β O H vs ws->op xs vs=some (ys,rt)->
 (∀us' rt',Reps κ β O H ys us'->Rep κ β O H rt rt'->Q rt' (zh H l (.lst us')))->r (.ref l) ws H Q
def KP {r:V->List V->Hp->VK->Prop} {op:FM} {dp:P3} {da:A3} {k:S3->H3->V3->O3} (hs:EL κ r op) (rel:Rel κ F σ H) (ht:F.T=[]) (o:SOut κ E F H D (mtO op dp da k F.s F.h)) {Q:VK}
  (hQ:∀F' rt Fm Hm v H3,SExt Fm Hm F' H3->F'.s.length=F.s.length->Rel κ F' σ H3->Rep κ F'.β F'.O H3 rt v->SOut κ E Fm Hm D (k F'.s F'.h rt)->Q v H3):
  tBM κ.K "list" r (zt κ E dp) (zG κ E da) σ H Q:=by
 refine (bindS (K:=kP κ) rel ht o).mono fun v H1 ⟨β1,h1,f,e1,⟨r1,rf⟩,o1⟩=>?_
 cases q:rdm F.s h1 f with
 |none=>simp only[q]at o1;exact o1.elim
 |some xs0=>
  simp only[q]at o1;obtain⟨a,ys,rfl,ha,_⟩:=BQ (F:=F.to β1 h1) r1 rf q
  refine⟨.inl ⟨rfl,ys,.of ha⟩,?_⟩
  have s1:SExt F H (F.to β1 h1) H1:=SExt.of0 ht e1
  refine (bindS (F:=F.to β1 h1) (K:=kA κ) r1 ht (SOut.move s1 o1)).mono fun ws H2 ⟨β2,h2,fs,e2,⟨r2,rfs⟩,o2⟩=>?_
  have rf2:=RfR.ext (F:=F.to β1 h1) (β':=β2) (h':=h2) r1 e2 rf;have s2:SExt (F.to β1 h1) H1 (F.to β2 h2) H2:=SExt.of0 (F:=F.to β1 h1) ht e2;cases q1:vals3 fs with
  |none=>simp only[q1]at o2;exact o2.elim
  |some vs=>
   cases q2:rdm F.s h2 f with
   |none=>simp only[q1,q2]at o2;exact o2.elim
   |some xs=>
    simp only[q1,q2]at o2;cases q3:op xs vs with
    |none=>simp only[q3]at o2;exact o2.elim
    |some w=>
     obtain⟨zs,rt⟩:=w;simp only[q3]at o2;cases q4:wr3 F.s h2 (.lst zs) f with
     |none=>simp only[q4]at o2;exact o2.elim
     |some w=>
      obtain⟨s3,h3⟩:=w;simp only[q4]at o2;obtain⟨l,us,ev,hl,rs,wk⟩:=KO (F:=F.to β2 h2) ht r2 rf2 q2 q4;cases ev
      refine hs β2 F.O H2 a xs zs vs us ws rt _ hl rs (BL rfs q1) q3 fun us' rt' r1' r2'=>?_
      obtain⟨F',e',es,eh,rel'⟩:=wk us' r1'
      refine hQ F' rt (F.to β2 h2) H2 _ _ e' (by rw[rel'.slen,<-rel.slen]) rel' (Rep.sext (F:=F.to β2 h2) e' r2') ?_
      rw[es,eh];exact SOut.move s2 o2
def EM {es:List Expr} {name:Str} {id:String} {r:V->List V->Hp->VK->Prop} {op:FM} {dp:P3} {da:A3} (hs:EL κ r op) (hK:X.K=κ.K) (slot:Slot "list" name id) (hty:typeOf (.builtin id)=pure (.type "method_descriptor")) (hm:MtR X id r) (ho:PE X o (zt κ E dp)) (ha:PA X (e::es) (zG κ E da))
  (hbase:attributeBase o name X.env (eval o X.env)=eval o X.env:=by rfl)
  (hfew:((backTo cpos (starEach (e::es) X.env)).all (fun x=> !x.1) && (backToKw cpos (keywordEach [] X.env)).all (fun x=>x.1.isSome)
   && decide ((e::es).length+([]:List Keyword).length+(if ([]:List Keyword).isEmpty then 0 else 1)<30))=true:=by rfl)
  (hline:(apos.endLine==cpos.line)=true:=by rfl) (hst:SE X e es:=by rfl) (hplain:(backTo cpos (starEach es X.env)).any (·.1)=false:=by rfl)
  (hsw:swapsWith (.Call (.Attribute o name apos) (e::es) [] cpos) none pos.line X.env=pure false:=by rfl):
  PS X (.Expr (.Call (.Attribute o name apos) (e::es) [] cpos) pos) (zl κ E (qJ op dp da)):=qo (AS (Oj PySem.F.plainAttrs_list slot hty hm ho ha hbase hfew hline hst hplain) hsw) fun D σ H ⟨F,rel,ht,o⟩=>by
 rw[hK];exact KP hs rel ht o fun F' rt Fm Hm v H3 e' _ rel' _ o'=>o' F' σ H3 e' rfl rfl rel'
def Qs {name:Str} {id:String} {r:V->List V->Hp->VK->Prop} {op:FM} {dp:P3} (hs:EL κ r op) (hK:X.K=κ.K) (slot:Slot "list" name id) (hty:typeOf (.builtin id)=pure (.type "method_descriptor")) (hm:MtR X id r) (ho:PE X o (zt κ E dp))
  (hbase:attributeBase o name X.env (eval o X.env)=eval o X.env:=by rfl) (hline:(apos.endLine==cpos.line)=true:=by rfl) (hsw:swapsWith (.Call (.Attribute o name apos) [] [] cpos) none pos.line X.env=pure false:=by rfl):
  PS X (.Expr (.Call (.Attribute o name apos) [] [] cpos) pos) (zl κ E (qJ op dp aNil)):=qo (AS (Oh PySem.F.plainAttrs_list slot hty hm ho hbase hline) hsw) fun D σ H ⟨F,rel,ht,o⟩=>by
 rw[hK]
 refine tOf.mono (KP (Q:=fun _ H1=>D.nx σ H1) hs rel ht o fun F' rt Fm Hm v H3 e' _ rel' _ o'=>o' F' σ H3 e' rfl rfl rel') fun x H1 ⟨h1,F1,r1,h2⟩=>⟨h1,h2 F1.β [] H1 Ext.refl ⟨r1,.nil⟩⟩
noncomputable def y6:FM:=fun xs vs=>match vs with
 | [y]=>if xs.length<sizeLine then some (xs++[y],.non) else none
 |_=>none
def EN:EL κ JL y6:=fun β O H l xs ys vs us ws rt Q hl rx rv e k=>by
 unfold y6 at e
 split at e
 .obtain⟨h,e⟩:=ql e
  cases e;cases rv with
  |cons a t=>cases t;exact⟨l,us,_,rfl,rfl,hl,by rw[<-rx.length];exact h,k _ _ (rx.append (.cons a .nil)) .non⟩
 .cases e
noncomputable def mPop:FM:=fun xs vs=>match vs with
 | []=>match xs[xs.length-1]? with
  |some y=>some (xs.dropLast,y)
  |none=>none
 |_=>none
def Qt:EL κ rPop mPop:=fun β O H l xs ys vs us ws rt Q hl rx rv e k=>by
 unfold mPop at e
 split at e
 .cases rv
  cases q:xs[xs.length-1]? with
  |none=>rw[q]at e;cases e
  |some y=>
   rw[q]at e;cases e;obtain⟨u,hu,ru⟩:=rx.get q;exact⟨l,us,u,rfl,rfl,hl,by rw[<-rx.length];exact hu,k _ _ rx.dropLast ru⟩
 .cases e
end
section
variable {X:Cx} {κ:Kx} {E:XK} {F F':Fr} {σ σ':L2.St} {H H1 H':Hp} {Q:VK} {p:Addr} {e a b c o:Expr} {pos apos np cpos:Pos} {i:Nat} {D:Ends}
def CV (p i:P3) (e:E3):D3:=fun s h=>(e s h).bindS fun r h1=>match r.fz with
 |none=>.no
 |some y=>(p s h1).bindS fun f h2=>(i s h2).bindS fun j h3=>match j,rdm s h3 f with
  |.x (.int k),some xs=>match qb xs.length k with
   |some n=>match wr3 s h3 (.lst (xs.set n y)) f with
    |some (s',h')=>.nx s' h'
    |none=>.no
   |none=>.no
  |_,_=>.no
def Qu {dp di:P3} {d:E3} (h:zl κ E (CV dp di d) D σ H):tAsg (zi κ E d) (gSub (zt κ E dp) (zt κ E di) HC) D σ H:=by
 obtain⟨F,rel,ht,o⟩:=h
 refine (bindS (K:=kE κ) rel ht o).mono fun v H1 ⟨β1,h1,r,e1,p1,o1⟩=>?_
 cases z:r.fz with
 |none=>simp only[z]at o1;exact o1.elim
 |some y=>
  simp only[z]at o1;obtain⟨r1,ry⟩:=Post.fz p1 z;have s1:SExt F H (F.to β1 h1) H1:=SExt.of0 ht e1
  refine (bindS (F:=F.to β1 h1) (K:=kP κ) r1 ht (SOut.move s1 o1)).mono fun ov H2 ⟨β2,h2,f,e2,⟨r2,rf⟩,o2⟩=>?_
  have s2:SExt (F.to β1 h1) H1 (F.to β2 h2) H2:=SExt.of0 (F:=F.to β1 h1) ht e2
  refine (bindS (F:=F.to β2 h2) (K:=kP κ) r2 ht (SOut.move s2 o2)).mono fun iv H3 ⟨β3,h3,j,e3,⟨r3,rj⟩,o3⟩=>?_
  have s3:SExt (F.to β2 h2) H2 (F.to β3 h3) H3:=SExt.of0 (F:=F.to β2 h2) ht e3;have rf3:=RfR.ext (F:=F.to β2 h2) (β':=β3) (h':=h3) r2 e3 rf;have ry3:Rep κ β3 F.O H3 y v:=(Rep.ext0 e3 (Rep.ext0 e2 ry))
  match j,rj,o3 with
  |.s _,rj,o3=>exact o3.elim
  |.x (.int k),rj,o3=>
   cases q:rdm F.s h3 f with
   |none=>simp only[q]at o3;exact o3.elim
   |some xs=>
    simp only[q]at o3;cases q2:qb xs.length k with
    |none=>simp only[q2]at o3;exact o3.elim
    |some n=>
     simp only[q2]at o3;cases q3:wr3 F.s h3 (.lst (xs.set n y)) f with
     |none=>simp only[q3]at o3;exact o3.elim
     |some w=>
      obtain⟨s',h'⟩:=w;simp only[q3]at o3;obtain⟨l,us,ev,hl,rs,wk⟩:=KO (F:=F.to β3 h3) ht r3 rf3 q q3;subst ev;cases (show Rep κ β3 F.O H3 (.int k) iv from rj)
      obtain⟨F',e',es,eh,rel'⟩:=wk (us.set n v) (rs.set ry3 n);exact⟨l,us,k,n,rfl,rfl,hl,by rw[<-rs.length];exact q2,SOut.move s3 o3 F' σ _ e' es eh rel'⟩
def KQ {tp:Pos} {ii:Expr} {dp di:P3} {d:E3} (he:PE X e (zi κ E d)) (ho:PE X o (zt κ E dp)) (hi:PE X ii (zt κ E di))
 (hh:∀{te to ti:TE},PE X e te->PE X o to->PE X ii ti->PS X (.Assign [.Subscript o ii tp] e pos) (tAsg te (gSub to ti HC))):PS X (.Assign [.Subscript o ii tp] e pos) (zl κ E (CV dp di d)):=qo (hh he ho hi) fun D σ H h=>Qu h
def Flds (X:Cx) (κ:Kx) (cs:List Str) (f:Str):Prop:=∀c∈cs,∀C,κ.cl c=some C->Cls X.K C/\NoAttr X.K C f
def Flds.nil {f:Str}:Flds X κ [] f:=fun c hc=>by cases hc
noncomputable def CW (f:Str) (v:V3):List (Str×V3)->List (Str×V3)
 | []=>[(f,v)]
 | (g,x)::r=>if g=f then (g,v)::r else (g,x)::CW f v r
theorem RepP.putF {β:AO} {O:Addr->Prop} {f:Str} {x:V3} {y:V} (r:Rep κ β O H x y):∀{fs:List (Str×V3)} {gs:List (Str×V)},RepP κ β O H fs gs->RepP κ β O H (CW f x fs) (L2.putF f y gs)
 |_,_,.nil=>.cons r .nil
 |_,_,.cons (k:=k) q t=>by
  unfold CW L2.putF
  by_cases h:k=f
  .rw[Aa h,Aa h];exact .cons r t
  .rw[Ab h,Ab h];exact .cons q (RepP.putF r t)
def GK (cs:List Str) (fl:Str) (p:P3) (e:E3):D3:=fun s h=>(e s h).bindS fun r h1=>match r.fz with
 |none=>.no
 |some y=>(p s h1).bindS fun f h2=>match f with
  |.x (.loc n)=>match h2[n]? with
   |some (.ins c fs)=>if c∈cs/\fs.length<1000 then .nx s (h2.set n (.ins c (CW fl y fs))) else .no
   |_=>.no
  |_=>.no
def KR {fl:Str} {pos':Pos} {cs:List Str} {dp:P3} {d:E3} {value:Expr} (hf:Flds X κ cs fl) (ha:PE X o (zt κ E dp)) (hv:PE X value (zi κ E d)) (hs:swapsWith value (some (.Attribute o fl pos')) pos.line X.env=pure false:=by rfl):PS X (.Assign [.Attribute o fl pos'] value pos) (zl κ E (GK cs fl dp d)):=qo (NC ha hv hs) fun D σ H ⟨F,rel,ht,o⟩=>by
 refine (bindS (K:=kE κ) rel ht o).mono fun v H1 ⟨β1,h1,r,e1,p1,o1⟩=>?_
 cases z:r.fz with
 |none=>simp only[z]at o1;exact o1.elim
 |some y=>
  simp only[z]at o1;obtain⟨r1,ry⟩:=Post.fz p1 z;have s1:SExt F H (F.to β1 h1) H1:=SExt.of0 ht e1
  refine (bindS (F:=F.to β1 h1) (K:=kP κ) r1 ht (SOut.move s1 o1)).mono fun ov H2 ⟨β2,h2,f,e2,⟨r2,rf⟩,o2⟩=>?_
  have s2:SExt (F.to β1 h1) H1 (F.to β2 h2) H2:=SExt.of0 (F:=F.to β1 h1) ht e2;have ry2:Rep κ β2 F.O H2 y v:=Rep.ext0 e2 ry
  match f,rf,o2 with
  |.x (.loc n),rf,o2=>
   cases q:h2[n]? with
   |none=>simp only[q]at o2;exact o2.elim
   |some c0=>
    match c0,q,o2 with
    |.ins c fs,q,o2=>
     simp only[q]at o2
     by_cases hc:c∈cs/\fs.length<1000
     .rw[Aa hc]at o2
      cases (show Rep κ β2 F.O H2 (.loc n) ov from rf) with
      |loc l1 l2=>
       rcases r2.heap.cell n _ q with w|⟨a,ha,C,dx,gs,k1,k2,k3⟩
       .cases w
       .have ev:=l2 a ha
        subst ev;have ex:=fun o=>GJ (H:=H2) (β:=β2) (o:=o) ha ⟨_,k2⟩
        refine⟨a,C,dx,gs,rfl,k2,(hf c hc.1 C k1).1,(hf c hc.1 C k1).2,by rw[<-k3.length];exact hc.2,?_⟩
        refine SOut.move s2 o2 (F.to β2 (h2.set n (.ins c (CW fl y fs)))) σ _ (SExt.of0 (F:=F.to β2 h2) ht (ex _)) rfl rfl ?_
        exact Rel.next (F:=F.to β2 h2) r2 (ex _) (r2.heap.wrLoc ha ⟨C,dx,_,k1,zF,(RepP.putF ry2 k3).ext0 (ex _)⟩)
     .rw[Ab hc]at o2;exact o2.elim
    |.lst _,q,o2=>simp only[q]at o2;exact o2.elim
    |.dK _,q,o2=>simp only[q]at o2;exact o2.elim
    |.dT _,q,o2=>simp only[q]at o2;exact o2.elim
    |.dead,q,o2=>simp only[q]at o2;exact o2.elim
    |.tab,q,o2=>simp only[q]at o2;exact o2.elim
    |.tb2,q,o2=>simp only[q]at o2;exact o2.elim
def eNew (c:Str) (f:F3) (a:A3):E3:=fun s h=>(a s h).bind fun fs h1=>match vals3 fs with
 |some vs=>match f (.loc h1.length::vs) (h1++[.ins c []]) with
  |.ok (.v .non) h2=>.ok (.v (.loc h1.length)) h2
  |.ex x h2=>.ex x h2
  |_=>.no
 |none=>.no
def Qv {C:Addr} {c:Str} {f:F3} {k:Nat} (hC:κ.cl c=some C) (hf:zq f k) {β1:AO} {h1:H3} {H1:Hp} {xs:List V3} {vs:List V} {x dx:Addr} (r1:Rel κ (F.to β1 h1) σ H1) (hr:Reps κ β1 F.O H1 xs vs) (hx:H1 x=none) (hdx:H1 dx=none) (hne:dx≠x) {E':XK} {Q':VK}
  (o:match f (.loc h1.length::xs) (h1++[.ins c []]) with
   |.ok (.v .non) h2=> ∀β' H',Ext No β1 H1 β' H'->Rel κ (F.to β' h2) σ H'->Rep κ β' F.O H' (.loc h1.length) (.ref x)->Q' .non H'
   |.ex x' h2=> ∀β' H',Ext No β1 H1 β' H'->RelH κ F.O β' h2 H'->XOk κ E' x' β' F.O H'
   |_=>False):zm κ k f (.ref x::vs) (zh (zh H1 dx (.own x)) x (.ins C dx [])) Q' E':=by
 have hl:β1.length=h1.length:=r1.heap.len;have hdx2:(zh H1 dx (.own x)) x=none:=by rw[zj (Av hne)];exact hx
 have kp:∀a u,H1 a=some u->(zh (zh H1 dx (.own x)) x (.ins C dx [])) a=some u:=fun a u ha=>by rw[zj (ym ha hx),zj (ym ha hdx)];exact ha
 obtain⟨nx,nO⟩:=r1.heap.off_new hx;have ex:Ext No β1 H1 (β1++[some x]) (zh (zh H1 dx (.own x)) x (.ins C dx [])):=⟨fun a u ha hn _=>⟨kp a u ha,fun z=>by
   rcases Bi.mp z with z|z
   .exact hn z
   .have:=Bm.mp z
    cases this;rw[hx]at ha;cases ha⟩,by simp,fun i a hi h=>by rw[A8 hi]at h;exact h,fun a u ha=>⟨u,kp a u ha⟩,fun i a hi h=>by
   rw[Bk hi]at h;have:a=x:=by have:=Am h;simp at this;exact this
   rw[this];exact hx⟩
 have rh:RelH κ F.O (β1++[some x]) (h1++[.ins c []]) (zh (zh H1 dx (.own x)) x (.ins C dx [])):=by
  refine⟨by simp[hl],fun i j a h1' h2'=>?_,fun a ha z=>?_,fun a ha=>let ⟨u,q,n⟩:=r1.heap.trk a ha;⟨u,kp a u q,n⟩,fun i a q=>?_,fun i c' hc=>?_⟩
  .rcases Nat.lt_or_ge i β1.length with hi|hi<;>rcases Nat.lt_or_ge j β1.length with hj|hj
   .rw[A8 hi]at h1';rw[A8 hj]at h2';exact r1.heap.inj i j a h1' h2'
   .rw[A8 hi]at h1';rw[Bk hj]at h2'
    have:a=x:=by
     have:=Am h2';simp at this;exact this
    subst this;exact absurd (Am h1') nx
   .rw[Bk hi]at h1';rw[A8 hj]at h2'
    have:a=x:=by
     have:=Am h1';simp at this;exact this
    subst this;exact absurd (Am h2') nx
   .have hi2:i<(β1++[some x]).length:=(Aq.mp h1').1
    have hj2:j<(β1++[some x]).length:=(Aq.mp h2').1;simp at hi2 hj2;lia
  .rcases Bi.mp z with z|z
   .exact r1.heap.off a ha z
   .have:=Bm.mp z
    cases this;exact nO ha
  .rcases Nat.lt_or_ge i β1.length with hi|hi
   .rw[A8 hi]at q
    obtain⟨u,hu,n⟩:=r1.heap.btr i a q;exact⟨u,kp a u hu,n⟩
   .rw[Bk hi]at q
    have:a=x:=by have:=Am q;simp at this;exact this
    subst this;exact⟨_,zF,by intro _ z;cases z⟩
  .rcases Nat.lt_or_ge i h1.length with hi|hi
   .rw[A8 hi]at hc
    refine (r1.heap.cell i c' hc).imp id fun ⟨a,ha,q⟩=>⟨a,by rw[A8 (by rw[hl];exact hi)];exact ha,q.ext ex (fun _ z=>z.elim) (fun _ _ _ n=>n) fun u hu=>kp a u hu⟩
   .rw[Bk hi]at hc
    have hi2:i-h1.length=0:=by
     have:=(Aq.mp hc).1;simp at this;exact this
    rw[hi2]at hc;cases hc;have ei:i=h1.length:=by lia
    subst ei;exact .inr ⟨x,by rw[<-hl];simp,C,dx,[],hC,zF,.nil⟩
 have rloc:Rep κ (β1++[some x]) F.O (zh (zh H1 dx (.own x)) x (.ins C dx [])) (.loc h1.length) (.ref x):= .loc (by simp[hl]) fun a ha=>by rw[<-hl]at ha;simp at ha;rw[ha]
 refine⟨F.O,β1++[some x],.loc h1.length::xs,h1++[.ins c []],?_,rh,.cons rloc (hr.ext0 ex),?_⟩
 .refine Fh fun n=>?_
  rw[hf (.loc h1.length::xs) _ (by rw[Ay,hr.length];exact n)]at o
  exact o
 .cases q2:f (.loc h1.length::xs) (h1++[.ins c []]) with
  |no=>simp only[q2]at o
  |ex x' h2=>simp only[q2]at o;exact fun β' H' e' r'=>o β' H' (ex.trans0 e') r'
  |ok r h2=>
   have hn:r=.v .non:=by
    cases r with
    |m _=>simp only[q2]at o
    |v z=>cases z<;>first|rfl|simp only[q2]at o
   subst hn;simp only[q2]at o;intro β' v H' e' pf;obtain⟨rh',rn⟩:=pf;cases rn
   refine o β' H' (ex.trans0 e') (Rel.next (F:=F.to β1 h1) r1 (ex.trans0 e') rh') (.loc ?_ fun a ha=>?_)
   .show h1.length<β'.length;have:=e'.len;simp at this;lia
   .have:=e'.bet h1.length a (by simp[hl]) ha
    rw[<-hl]at this;simp at this;rw[this]
def Qw {C:Addr} {c:Str} {f:F3} {t:A3} {k:Nat} (hC:κ.cl c=some C) (hf:zq f k) (h:zi κ E (eNew c f t) σ H Q):J5 C (zm κ k f) [] E (zG κ E t) σ H Q:=by
 obtain⟨F,rel,o⟩:=h
 refine (z7 (K:=kA κ) zM rel o).mono fun vs H1 ⟨β1,h1,fs,e1,⟨r1,rf1⟩,o1⟩=>fun x dx hx hdx hne=>?_
 cases q:vals3 fs with
 |none=>simp only[q]at o1;exact o1.elim
 |some xs=>
  simp only[q]at o1;rw[Bo]
  refine Qv hC hf r1 (BL (F:=F.to β1 h1) rf1 q) hx hdx hne ?_
  cases q2:f (.loc h1.length::xs) (h1++[.ins c []]) with
  |no=>simp only[q2]at o1;exact o1
  |ex x' h2=>simp only[q2]at o1;exact fun β' H' e' r'=>(o1 β' H' e' (r'.sub fun a ha=>.inr (.inr ha))).sub fun a ha=>.inr (.inr ha)
  |ok r h2=>
   cases r with
   |m _=>simp only[q2]at o1;exact o1.elim
   |v z=>
    cases z<;>simp only[q2]at o1<;>first|exact o1.elim|exact fun β' H' e' r' rl=>⟨rfl,o1 β' (.ref x) H' e' ⟨r',rl⟩⟩
def KS {C fI:Addr} {c x:Str} {es:List Expr} {f:F3} {t:A3} {k:Nat} {fd:FuncData} {ps:List Str} {n:Nat} (hC:κ.cl c=some C) (hf:zq f n) (M:Mk X.K C fI) (Fk:FnOk X.prog X.w X.K X.mg X.base (XT X.prog X.w) k fI fd ps (zm κ n f)) (hr:Room (k+1) X.A) (hg:Gl X x) (hm:X.mg x=some (.ref C)) (hb:Binds X.K fd ps []) (hx:AB (XT X.prog X.w) X E)
 (ha:PA X (e::es) (zG κ E t)) (hdb:(x==("__debug__" :Str))=false:=by decide) (he:SE X e es:=by rfl) (hpl:BA X pos es:=by rfl):
 PE X (.Call (.Name x np) (e::es) [] pos) (zi κ E (eNew c f t)):=yu (NM M Fk hr hg hm hb .nil hx ha hdb he hpl) fun _ _ _ h=>Qw hC hf h
end
mutual
noncomputable def low (n:Nat):V3->Bool
 |.loc m=>decide (m<n)
 |.tup xs=>lows n xs
 |.lst xs=>lows n xs
 |.dK kvs=>lowK n kvs
 |.dT kvs=>lowT n kvs
 |.obj _ fs=>yA n fs
 |.fn _ env=>lows n env
 |_=>true
noncomputable def lows (n:Nat):List V3->Bool
 | []=>true
 |x::r=>low n x && lows n r
noncomputable def lowK (n:Nat):List (zw×V3)->Bool
 | []=>true
 | (_,x)::r=>low n x && lowK n r
noncomputable def lowT (n:Nat):List (MK×V3)->Bool
 | []=>true
 | (_,x)::r=>low n x && lowT n r
noncomputable def yA (n:Nat):List (Str×V3)->Bool
 | []=>true
 | (_,x)::r=>low n x && yA n r
end
section
variable {X:Cx} {κ:Kx} {E:XK} {F F':Fr} {σ σ':L2.St} {H H1 H':Hp} {Q:VK} {p:Addr} {e a b c o:Expr} {pos apos np cpos:Pos} {i:Nat} {D:Ends} {β:AO} {O:Addr->Prop}
def yi {α:Type} (n:Nat) (kvs:List (α×V3)):Prop:=∀kv∈kvs,low n kv.2=true
theorem lowK_iff {n:Nat}:∀{kvs:List (zw×V3)},lowK n kvs=true↔yi n kvs
 | []=>by simp[lowK,yi]
 | (k,x)::r=>by simp[lowK,yi,As,lowK_iff (kvs:=r)]
theorem lowT_iff {n:Nat}:∀{kvs:List (MK×V3)},lowT n kvs=true↔yi n kvs
 | []=>by simp[lowT,yi]
 | (k,x)::r=>by simp[lowT,yi,As,lowT_iff (kvs:=r)]
theorem lowF_iff {n:Nat}:∀{kvs:List (Str×V3)},yA n kvs=true↔yi n kvs
 | []=>by simp[yA,yi]
 | (k,x)::r=>by simp[yA,yi,As,lowF_iff (kvs:=r)]
mutual
theorem Rep.low:∀{x:V3} {v:V},Rep κ β O H x v->low β.length x=true
 |_,_,.non=>by simp[L3.low]
 |_,_,.bl _=>by simp[L3.low]
 |_,_,.int _=>by simp[L3.low]
 |_,_,.str _=>by simp[L3.low]
 |_,_,.ty _=>by simp[L3.low]
 |_,_,.tup _ _ _ r=>by simp only[L3.low];exact Reps.low r
 |_,_,.lst _ _ _ r=>by simp only[L3.low];exact Reps.low r
 |_,_,.scr _ _ _=>by simp[L3.low]
 |_,_,.scrK _=>by simp[L3.low]
 |_,_,.dK _ _ _ r=>by simp only[L3.low];exact lowK_iff.mpr (RepP.low r)
 |_,_,.dT _ _ _ r=>by simp only[L3.low];exact lowT_iff.mpr (RepP.low r)
 |_,_,.obj _ _ _ _ r=>by simp only[L3.low];exact lowF_iff.mpr (RepP.low r)
 |_,_,.cls _=>by simp[L3.low]
 |_,_,.clo _ r=>by simpa[L3.low] using Reps.low r
 |_,_,.lam _ _ _=>by simp[L3.low,L3.lows]
 |_,_,.exc (dd:=dd) _ _ _ _ x=>by
  cases dd with
  |none=>cases x;simp[L3.low,L3.lows]
  |some d=>obtain⟨z,rfl,_⟩:=x;simp[L3.low,L3.lows]
 |_,_,.loc h _=>by simp[L3.low,h]
theorem Reps.low:∀{x:List V3} {v:List V},Reps κ β O H x v->lows β.length x=true
 |_,_,.nil=>by simp[L3.lows]
 |_,_,.cons a r=>by simp only[L3.lows,As];exact⟨Rep.low a,Reps.low r⟩
theorem RepP.low:∀{α:Type} {x:List (α×V3)} {v:List (α×V)},RepP κ β O H x v->yi β.length x
 |_,_,_,.nil=>fun kv h=>by cases h
 |_,_,_,.cons a r=>fun kv h=>by
  rcases Ag.mp h with z|z
  .rw[z];exact Rep.low a
  .exact RepP.low r kv z
end
mutual
theorem Rep.cut {n:Nat}:∀{x:V3} {v:V},Rep κ β O H x v->low n x=true->Rep κ (β.take n) O H x v
 |_,_,.non,_=>.non
 |_,_,.bl b,_=>.bl b
 |_,_,.int i,_=>.int i
 |_,_,.str x,_=>.str x
 |_,_,.ty x,_=>.ty x
 |_,_,.tup h1 h2 h3 r,l=>.tup h1 (fun z=>h2 (Bc z)) h3 (Reps.cut r (by simpa only[L3.low] using l))
 |_,_,.lst h1 h2 h3 r,l=>.lst h1 (fun z=>h2 (Bc z)) h3 (Reps.cut r (by simpa only[L3.low] using l))
 |_,_,.scr h1 h2 h3,_=>.scr h1 (fun z=>h2 (Bc z)) h3
 |_,_,.scrK h,_=>.scrK h
 |_,_,.dK h1 h2 h3 r,l=>.dK h1 (fun z=>h2 (Bc z)) h3 (RepP.cut r (lowK_iff.mp (by simpa only[L3.low] using l)))
 |_,_,.dT h1 h2 h3 r,l=>.dT h1 (fun z=>h2 (Bc z)) h3 (RepP.cut r (lowT_iff.mp (by simpa only[L3.low] using l)))
 |_,_,.obj h0 h1 h2 h3 r,l=>.obj h0 h1 (fun z=>h2 (Bc z)) h3 (RepP.cut r (lowF_iff.mp (by simpa only[L3.low] using l)))
 |_,_,.cls h,_=>.cls h
 |_,_,.clo h0 r,l=>.clo h0 (Reps.cut r (by simpa[L3.low] using l))
 |_,_,.lam k r s,_=>.lam k (r.imp fun d u h n q=>⟨h,fun z=>n (Bc z),q⟩) (s.imp fun d u h n q=>⟨h,fun z=>n (Bc z),q⟩)
 |_,_,.exc h0 h1 h2 h3 x,_=>.exc h0 h1 (fun z=>h2 (Bc z)) h3 (x.imp fun d u h n q=>⟨h,fun z=>n (Bc z),q⟩)
 |_,_,.loc (n:=m) h1 h2,l=>by
  have hm:m<n:=by simpa[L3.low] using l
  exact .loc (by rw[A5];lia) fun a ha=>h2 a (by rw[Bv hm]at ha;exact ha)
theorem Reps.cut {n:Nat}:∀{x:List V3} {v:List V},Reps κ β O H x v->lows n x=true->Reps κ (β.take n) O H x v
 |_,_,.nil,_=>.nil
 |_,_,.cons a r,l=>by
  simp only[L3.lows,As]at l;exact .cons (Rep.cut a l.1) (Reps.cut r l.2)
theorem RepP.cut {n:Nat}:∀{α:Type} {x:List (α×V3)} {v:List (α×V)},RepP κ β O H x v->yi n x->RepP κ (β.take n) O H x v
 |_,_,_,.nil,_=>.nil
 |_,_,_,.cons a r,l=>.cons (Rep.cut a (l _ Ax)) (RepP.cut r fun kv h=>l kv (A1 _ h))
end
def lowC (n:Nat):C3->Prop
 |.lst xs=>lows n xs=true
 |.dK kvs=>yi n kvs
 |.dT kvs=>yi n kvs
 |.ins _ fs=>yi n fs
 |.dead=>True
 |.tab=>True
 |.tb2=>True
theorem CellR.low {c:C3} {a:Addr} (r:CellR κ β O H c a):lowC β.length c:=by
 cases c with
 |lst xs=>obtain⟨_,_,r⟩:=r;exact r.low
 |dK xs=>obtain⟨_,_,r⟩:=r;exact r.low
 |dT xs=>obtain⟨_,_,r⟩:=r;exact r.low
 |ins c fs=>obtain⟨_,_,_,_,_,r⟩:=r;exact r.low
 |dead=>exact r.elim
 |tab=>trivial
 |tb2=>trivial
theorem CellR.cut {c:C3} {a:Addr} {n:Nat} (r:CellR κ β O H c a) (l:lowC n c):CellR κ (β.take n) O H c a:=by
 cases c with
 |lst xs=>obtain⟨_,q,r⟩:=r;exact⟨_,q,r.cut l⟩
 |dK xs=>obtain⟨_,q,r⟩:=r;exact⟨_,q,r.cut l⟩
 |dT xs=>obtain⟨_,q,r⟩:=r;exact⟨_,q,r.cut l⟩
 |ins c fs=>obtain⟨_,_,_,k,q,r⟩:=r;exact⟨_,_,_,k,q,r.cut l⟩
 |dead=>exact r.elim
 |tab=>exact r
 |tb2=>obtain⟨r0,c,t,v,r1,r2,r3,r4⟩:=r;exact⟨r0,c,t,v,r1,r2,r3,r4.imp fun d u h n q=>⟨h,fun z=>n (Bc z),q⟩⟩
mutual
theorem Rep.addO {x:Addr} (hx:some x∈β):∀{v:V3} {w:V},Rep κ β O H v w->Rep κ β (fun a=>a=x\/O a) H v w
 |_,_,.non=>.non
 |_,_,.bl b=>.bl b
 |_,_,.int i=>.int i
 |_,_,.str x=>.str x
 |_,_,.ty x=>.ty x
 |_,_,.tup h1 h2 h3 r=>.tup h1 h2 (fun z=>z.elim (fun e=>h2 (by rw[e];exact hx)) h3) (Reps.addO hx r)
 |_,_,.lst h1 h2 h3 r=>.lst h1 h2 (fun z=>z.elim (fun e=>h2 (by rw[e];exact hx)) h3) (Reps.addO hx r)
 |_,_,.scr h1 h2 h3=>.scr h1 h2 (fun z=>z.elim (fun e=>h2 (by rw[e];exact hx)) h3)
 |_,_,.scrK h=>.scrK h
 |_,_,.dK h1 h2 h3 r=>.dK h1 h2 (fun z=>z.elim (fun e=>h2 (by rw[e];exact hx)) h3) (RepP.addO hx r)
 |_,_,.dT h1 h2 h3 r=>.dT h1 h2 (fun z=>z.elim (fun e=>h2 (by rw[e];exact hx)) h3) (RepP.addO hx r)
 |_,_,.obj h0 h1 h2 h3 r=>.obj h0 h1 h2 (fun z=>z.elim (fun e=>h2 (by rw[e];exact hx)) h3) (RepP.addO hx r)
 |_,_,.cls h=>.cls h
 |_,_,.clo h0 r=>.clo h0 (Reps.addO hx r)
 |_,_,.lam k r s=>.lam k (r.imp fun d u h n q=>⟨h,n,fun z=>z.elim (fun e=>n (by rw[e];exact hx)) q⟩) (s.imp fun d u h n q=>⟨h,n,fun z=>z.elim (fun e=>n (by rw[e];exact hx)) q⟩)
 |_,_,.exc h0 h1 h2 h3 x=>.exc h0 h1 h2 (fun z=>z.elim (fun e=>h2 (by rw[e];exact hx)) h3) (x.imp fun d u h n q=>⟨h,n,fun z=>z.elim (fun e=>n (by rw[e];exact hx)) q⟩)
 |_,_,.loc h1 h2=>.loc h1 h2
theorem Reps.addO {x:Addr} (hx:some x∈β):∀{v:List V3} {w:List V},Reps κ β O H v w->Reps κ β (fun a=>a=x\/O a) H v w
 |_,_,.nil=>.nil
 |_,_,.cons a r=>.cons (Rep.addO hx a) (Reps.addO hx r)
theorem RepP.addO {x:Addr} (hx:some x∈β):∀{α:Type} {v:List (α×V3)} {w:List (α×V)},RepP κ β O H v w->RepP κ β (fun a=>a=x\/O a) H v w
 |_,_,_,.nil=>.nil
 |_,_,_,.cons a r=>.cons (Rep.addO hx a) (RepP.addO hx r)
end
theorem CellR.addO {c:C3} {a x:Addr} (hx:some x∈β) (r:CellR κ β O H c a):CellR κ β (fun a=>a=x\/O a) H c a:=by
 cases c with
 |lst xs=>obtain⟨_,q,r⟩:=r;exact⟨_,q,r.addO hx⟩
 |dK xs=>obtain⟨_,q,r⟩:=r;exact⟨_,q,r.addO hx⟩
 |dT xs=>obtain⟨_,q,r⟩:=r;exact⟨_,q,r.addO hx⟩
 |ins c fs=>obtain⟨_,_,_,k,q,r⟩:=r;exact⟨_,_,_,k,q,r.addO hx⟩
 |dead=>exact r.elim
 |tab=>exact r
 |tb2=>obtain⟨r0,c,t,v,r1,r2,r3,r4⟩:=r;exact⟨r0,c,t,v,r1,r2,r3,r4.imp fun d u h n q=>⟨h,n,fun z=>z.elim (fun e=>n (by rw[e];exact hx)) q⟩⟩
open Classical in
def eObj (e:E3):E3:=fun s h=>(e s h).bind fun r h1=>match r with
 |.v (.loc n)=>match h1[n]? with
  |some (.ins c fs)=>if n=h.length/\h1=h++[.ins c fs]/\yA n fs=true then .ok (.m (.ins c fs)) h else .no
  |_=>.no
 |_=>.no
def Qx {β1:AO} {h1:H3} {n:Nat} {c:Str} {fs:List (Str×V3)} {v:V} (rel:Rel κ F σ H) (e1:Ext No F.β H β1 H1) (r1:Rel κ (F.to β1 h1) σ H1) (rl:Rep κ β1 F.O H1 (.loc n) v) (en:n=F.h.length) (eh:h1=F.h++[.ins c fs]) (hlow:yA n fs=true):
  Ext No F.β H (β1.take n) H1/\Post κ (Nw H) (F.to (β1.take n) F.h) σ H1 (.m (.ins c fs)) v:=by
 have hl1:β1.length=h1.length:=r1.heap.len;have hl0:F.β.length=F.h.length:=rel.heap.len;have hlen:β1.length=n+1:=by rw[hl1,eh];simp[en]
 have hn:h1[n]? =some (.ins c fs):=by rw[eh,en];simp
 rcases r1.heap.cell n _ hn with w|⟨x,hx,C,dx,gs,k1,k2,k3⟩
 .cases w
 have hx:β1[n]? =some (some x):=hx;have ev:v=.ref x:=by cases rl with|loc _ l2=>exact l2 x hx
 subst ev;have hxb:some x∈β1:=Am hx;have hxn:some x∉β1.take n:=fun z=>by
  obtain⟨j,hj⟩:=Cw z;have hj2:j<n:=by have:=(Aq.mp hj).1;rw[A5]at this;lia
  rw[Bv hj2]at hj;have:=r1.heap.inj j n x hj hx;lia
 have hxH:H x=none:=e1.nwb n x (by lia) hx
 have ex:Ext No F.β H (β1.take n) H1:=⟨fun a u ha hb m=>by
   obtain⟨q1,q2⟩:=e1.keep a u ha hb m;exact⟨q1,fun z=>q2 (Bc z)⟩,by rw[A5];lia,fun i a hi h=>by
   rw[Bv (by lia)]at h;exact e1.bet i a hi h,e1.there,fun i a hi h=>by
   have:=(Aq.mp h).1;rw[A5]at this;lia⟩
 have rh:RelH κ (fun a=>a=x\/F.O a) (β1.take n) F.h H1:=by
  refine⟨by rw[A5];lia,fun i j a h1' h2'=>?_,fun a ha z=>?_,fun a ha=>?_,fun i a q=>?_,fun i c' hc=>?_⟩
  .have hi:i<n:=by have:=(Aq.mp h1').1;rw[A5]at this;lia
   have hj:j<n:=by have:=(Aq.mp h2').1;rw[A5]at this;lia
   rw[Bv hi]at h1';rw[Bv hj]at h2';exact r1.heap.inj i j a h1' h2'
  .rcases ha with ha|ha
   .subst ha;exact hxn z
   .exact r1.heap.off a ha (Bc z)
  .rcases ha with ha|ha
   .subst ha;exact⟨_,k2,by intro _ z;cases z⟩
   .exact r1.heap.trk a ha
  .have hi:i<n:=by have:=(Aq.mp q).1;rw[A5]at this;lia
   rw[Bv hi]at q;exact r1.heap.btr i a q
  .have hi:i<n:=by rw[en];exact (Aq.mp hc).1
   have hc1:h1[i]? =some c':=by rw[eh,A8 (by lia)];exact hc
   have hlw:c'=.dead\/lowC n c':=(rel.heap.cell i c' hc).imp id fun ⟨a,_,q⟩=>by have:=q.low;rw[hl0,<-en]at this;exact this
   rcases hlw with z|hlw
   .exact .inl z
   .exact (r1.heap.cell i c' hc1).imp id fun ⟨a,ha,q⟩=>⟨a,by rw[Bv hi];exact ha,(CellR.addO hxb q).cut hlw⟩
 refine⟨ex,x,rfl,rel.nextNew ex rh hxH,⟨C,dx,gs,k1,k2,((RepP.addO hxb k3).cut (lowF_iff.mp hlow)).sub fun a ha=>?_⟩,hxH⟩
 rcases ha with z|z
 .rcases Ag.mp z with z|z
  .exact .inl z
  .exact .inr (.inl z)
 .exact .inr (.inr z)
def KU {d:E3} (h:PE X e (zi κ E d)):PE X e (zi κ E (eObj d)):=yu h fun σ H Q ⟨F,rel,o⟩=>by
 refine⟨F,rel,?_⟩
 unfold eObj at o;cases q:d F.s F.h with
 |no=>rw[q]at o;exact o
 |ex x h1=>rw[q]at o;exact o
 |ok r h1=>
  rw[q]at o;intro β1 v H1 e1 p1;simp only[Res.bind]at o
  split at o
  .split at o
   .split at o
    .rename_i hc
     obtain⟨en,eh,hlow⟩:=hc;obtain⟨ex,ps⟩:=Qx rel e1 p1.1 p1.2 en eh hlow;exact o _ v H1 ex ps
    .exact o.elim
   .exact o.elim
  .exact o.elim
end
section
variable {X:Cx} {κ:Kx} {E:XK} {F F':Fr} {σ σ':L2.St} {H H1 H':Hp} {Q:VK} {p:Addr} {e a b c o:Expr} {es:List Expr} {pos apos np cpos:Pos} {i:Nat} {D:Ends}
def yv {A:Around} {k:Nat} (hr:Room k A):A.units+9<cLine:=by have:=hr.units;lia
def Flds.cons {cs:List Str} {c f:Str} {C:Addr} (hC:κ.cl c=some C) (cl:Cls X.K C) (na:NoAttr X.K C f) (r:Flds X κ cs f):Flds X κ (c::cs) f:=fun c' hc C' hC'=>by
 rcases Ag.mp hc with z|z
 .subst z;rw[hC]at hC';cases hC';exact⟨cl,na⟩
 .exact r c' z C' hC'
def EO:∀xs s s',gsNil xs s=some s'->xs.length=0:=fun xs s s' e=>by
 cases xs with
 |nil=>rfl
 |cons _ _=>cases e
def qM {g:G3} {gs:Gs3} {n:Nat} (h:∀xs s s',gs xs s=some s'->xs.length=n):∀xs s s',gsCons g gs xs s=some s'->xs.length=n+1:=fun xs s s' e=>by
 cases xs with
 |nil=>cases e
 |cons x r=>
  simp only[gsCons]at e;cases q:g x s with
  |none=>rw[q]at e;cases e
  |some s1=>rw[q]at e;rw[Ay,h r s1 s' e]
def sAug (i:Nat) (f:F2) (p:P3):D3:=fun s h=>match s[i]? with
 |some (some (.v x))=>(p s h).bindS fun y h1=>match f s h1 (.x x) y with
  |some (.v z)=>.nx (s.set i (some (.v z))) h1
  |_=>.no
 |_=>.no
end
section
variable {X:Cx} {κ:Kx} {E:XK} {F F':Fr} {σ σ':L2.St} {H H1 H':Hp} {Q:VK} {p:Addr} {e a b c o:Expr} {es:List Expr} {pos apos np cpos:Pos} {i:Nat} {D:Ends}
open Classical in
def Ic:OpR X (compareOp .IsNot) (fun x y H Q=> ∃b,y=.bl b/\Q (.bl (!decide (x=.bl b))) H):=by
 intro pins s σ H x y v u Q I rx ry h;obtain⟨b,rfl,q⟩:=h;cases ry;cases x with
 |bl c=>cases rx;exact Ai (AA I q (by cases b<;>cases c<;>rfl))
 |non=>cases rx;exact Ai (AA I q (by simp))
 |ref a=>cases rx;exact Ai (AA I q (by simp))
 |ty a=>cases rx;exact Ai (AA I q (by simp))
 |int a=>obtain⟨t,rfl⟩:=rx;exact Ai (AA I q (by simp))
 |str a=>obtain⟨t,rfl⟩:=rx;exact Ai (AA I q (by simp))
 |byt a=>obtain⟨t,rfl⟩:=rx;exact Ai (AA I q (by simp))
 |flt a=>obtain⟨t,rfl⟩:=rx;exact Ai (AA I q (by simp))
noncomputable def oIsB (neg:Bool):F2:=fun _ _ x y=>match x,y with
 |.x (.bl a),.x (.bl b)=>some (.v (.bl (if neg then !(a==b) else a==b)))
 |.x .non,.x (.bl _)=>some (.v (.bl neg))
 |.x (.int _),.x (.bl _)=>some (.v (.bl neg))
 |.x (.str _),.x (.bl _)=>some (.v (.bl neg))
 |.x (.tup _),.x (.bl _)=>some (.v (.bl neg))
 |.x (.lst _),.x (.bl _)=>some (.v (.bl neg))
 |_,_=>none
def Qy {neg:Bool} {s:S3} {h:H3} {x y:Rf} {z:Vl} {v w:V} (e:oIsB neg s h x y=some z) (rx:RfR κ F H x v) (ry:RfR κ F H y w):∃b,w=.bl b/\z=.v (.bl (if neg then !decide (v=.bl b) else decide (v=.bl b))):=by
 unfold oIsB at e
 split at e
 .rename_i a b
  cases e;cases (show Rep κ F.β F.O H (.bl a) v from rx)
  cases (show Rep κ F.β F.O H (.bl b) w from ry)
  exact⟨b,rfl,by cases neg<;>cases a<;>cases b<;>rfl⟩
 .rename_i b;cases e;cases (show Rep κ F.β F.O H .non v from rx);cases (show Rep κ F.β F.O H (.bl b) w from ry);exact⟨b,rfl,by cases neg<;>simp⟩
 .rename_i b;cases e;cases (show Rep κ F.β F.O H (.int _) v from rx);cases (show Rep κ F.β F.O H (.bl b) w from ry);exact⟨b,rfl,by cases neg<;>simp⟩
 .rename_i b;cases e;cases (show Rep κ F.β F.O H (.str _) v from rx);cases (show Rep κ F.β F.O H (.bl b) w from ry);exact⟨b,rfl,by cases neg<;>simp⟩
 .rename_i b;cases e;cases (show Rep κ F.β F.O H (.tup _) v from rx);cases (show Rep κ F.β F.O H (.bl b) w from ry);exact⟨b,rfl,by cases neg<;>simp⟩
 .rename_i b;cases e;cases (show Rep κ F.β F.O H (.lst _) v from rx);cases (show Rep κ F.β F.O H (.bl b) w from ry);exact⟨b,rfl,by cases neg<;>simp⟩
 .cases e
def Ie:OpSim κ (fun x y H Q=> ∃b,y=.bl b/\Q (.bl (!decide (x=.bl b))) H) (oIsB true):=fun F σ H x y z v w Q rel rx ry e k=>by
 obtain⟨b,h1,rfl⟩:=Qy e rx ry;exact⟨b,h1,k _ H Ext.refl ⟨rel,.bl _⟩⟩
end
end L3
namespace L2
open PySem PySem.Spec PyProof.Rows
open PySem.Builtin.Str (occurrences)
section
variable {X:Cx} {e a b c o:Expr} {ta tb tc:TE} {pos:Pos}
def Qz:CallR X (.type "str") (fun xs H Q=> ∃x,xs=[.str x]/\Q (.str x) H):=by
 intro pins s σ H xs us Q I r h;obtain⟨x,rfl,q⟩:=h;obtain⟨u,rfl,t,rfl⟩:=AH r;exact PySem.P.str_of_str ⟨.str x,H,I,⟨_,rfl⟩,q⟩
def tFmt (ta:TE):TE:=fun σ H Q=>ta σ H fun x H1=>(∃i:Int,x=.int i/\i.natAbs.log2<1920/\Q (.str (toString i)) H1)\/∃y,x=.str y/\y.length<=100000/\Q (.str y) H1
def GL (ha:PE X a ta):PE X (.FormattedValue a (-1) none pos) (tFmt ta):=by
 intro pins s σ H Q I h
 refine wpAny_FormattedValue_plain (A7 (ha pins s σ H _ I h) (fun v s1 ⟨x,H1,I1,r1,q⟩=>?_) fun _ _ e=>e)
 rcases q with ⟨i,rfl,hi,q⟩|⟨y,rfl,hy,q⟩
 .obtain⟨t,rfl⟩:=r1
  exact wpAny_formatField_int hi ⟨.str _,H1,I1.tok _,⟨_,rfl⟩,q⟩
 .obtain⟨t,rfl⟩:=r1
  exact wpAny_formatField_str ⟨.str y,H1,I1,⟨_,rfl⟩,q⟩ ⟨.str y,H1,I1.tok _,⟨_,rfl⟩,q⟩ (Nat.le_trans hy (by decide))
def tF3 (ta tb tc:TE):TE:=fun σ H Q=>ta σ H fun x H1=> ∃i,x=.str i/\i.length<=10000/\tb σ H1 fun y H2=> ∃j,y=.str j/\j.length<=10000/\tc σ H2 fun z H3=> ∃k,z=.str k/\k.length<=10000/\Q (.str (i++j++k)) H3
def Q0 (ha:PE X a ta) (hb:PE X b tb) (hc:PE X c tc):PE X (.JoinedStr [a,b,c] pos) (tF3 ta tb tc):=by
 intro pins s σ H Q I h;have sz:40000<=sizeLine:=by decide
 refine wpAny_JoinedStr ?_
 refine A7 (ha pins s σ H _ I h) (fun v s1 ⟨x,H1,I1,r1,i,ei,li,q1⟩=>?_) fun _ _ e=>e
 subst ei;obtain⟨t1,rfl⟩:=r1;have e0:Str.empty++i=i:=Str.empty_append i
 refine⟨i,t1,rfl,by rw[e0];lia,?_⟩
 rw[e0]
 refine A7 (hb pins s1 σ H1 _ I1 q1) (fun v s2 ⟨x,H2,I2,r2,j,ej,lj,q2⟩=>?_) fun _ _ e=>e
 subst ej;obtain⟨t2,rfl⟩:=r2
 refine⟨j,t2,rfl,by rw[Dm];lia,?_⟩
 refine A7 (hc pins s2 σ H2 _ I2 q2) (fun v s3 ⟨x,H3,I3,r3,k,ek,lk,q3⟩=>?_) fun _ _ e=>e
 subst ek;obtain⟨t3,rfl⟩:=r3
 refine⟨k,t3,rfl,by rw[Dm,Dm];lia,?_⟩
 exact⟨by rw[Dm,Dm];lia,.str _,H3,I3.tok _,⟨_,rfl⟩,q3⟩
end
end L2
namespace L2
open PySem PySem.Spec PyProof.Rows
def isFr (a:Addr) (cls:Value) (dd:Option Addr):Heap->Prop:=fun h=> ∃o vs t0,h.get? a=some o/\o.cls=cls/\o.data=.fields vs/\o.dict=dd/\vs[0]? =some (.ref t0)/\vs[1]? =some .none
abbrev yg (a:Addr) (cls:Value) (dd:Option Addr):HO:= .ext (isFr a cls dd)
def Ig {P:Program} {w:World} {H:Hp} {h:Heap} {a:Addr} {cls:Value} {dd:Option Addr} (x:isFr a cls dd h):ObjOk P w H h a (yg a cls dd):=
 ⟨x,let ⟨o,_,_,e,_⟩:=x;⟨o,e⟩,fun h1 h2 ⟨o,vs,t0,e,r⟩ k=>⟨o,vs,t0,k o e,r⟩⟩
structure CB (K:FG) (B:Addr):Prop where
 sp:PySem.W.specialIn K (.ref B) "__getattribute__" =some (some (.builtin "type.__getattribute__"))
 rd:PySem.W.readsIn K B (.type "type")=true
 fc:PySem.W.findCls K (.ref B) (.type "type") "__init__" =some (.val (.builtin "ValueError.__init__"))
section
variable {X:Cx} {a B:Addr} {np apos cpos pos pos':Pos} {x:Str} {e1 e2 o value e:Expr} {ta tv:TE} {t:TA}
def Ih (K:FG) (t:TA):TE:=fun σ H Q=>t σ H fun vs H1=> ∃a C dd y,vs=[.ref a,y]/\H1 a=some (yg a (.ref C) dd)/\(PySem.W.clsIn K C).isSome=true/\PySem.W.subIn K (.ref C) (.type "ValueError")=some true/\Q .non (zh H1 a (yg a (.ref C) dd))
def GM {pl:Sem Bool} (c:CB X.K B) (hg:Gl X x) (hm:X.mg x=some (.ref B)) (ha:PA X [e1,e2] t) (hdb:(x==("__debug__" :Str))=false:=by decide)
  (hst:starEach [e1,e2] X.env=(false,eval e1 X.env)::starEach [e2] X.env:=by rfl) (hpl:(backTo cpos (starEach [e2] X.env)).any (·.1)=false:=by rfl)
  (ht:eval (.Call (.Attribute (.Name x np) "__init__" apos) [e1,e2] [] cpos) X.env=(do
   let ov <-eval (.Name x np) X.env
   standAt apos.atName
   let (f,first) <-holding [ov] (getMethod ov "__init__" pl)
   callWith cpos f first (backTo cpos (starEach [e1,e2] X.env)) (backToKw cpos (keywordEach [] X.env))):=by rfl):
  PE X (.Call (.Attribute (.Name x np) "__init__" apos) [e1,e2] [] cpos) (Ih X.K t):=by
 intro pins s σ H Q I h
 refine PySem.W.methodCall_KW (pl:=pl) (AG I hg hm ?_ hdb) ht
 refine PySem.W.method_cls I.kIn c.sp (PySem.W.cls_value I.kIn c.rd c.fc (by decide+kernel) ?_)
 have I1:Inv X pins σ H {s with toks:=s.toks+1}:=I.tok _
 have hA:=ha cpos pins _ σ H _ I1 h;rw[hst]at hA ⊢
 refine Fs (by show (false || (backTo cpos (starEach [e2] X.env)).any (·.1))=false;rw[hpl]<;>rfl) (Ft (zn hA fun us s2 z=>?_))
 obtain⟨vs,H2,I2,r2,a,C,dd,y,rfl,ea,si,sv,q⟩:=z;obtain⟨u,v,rfl,rx,ry⟩:=DQ r2;cases rx;obtain⟨⟨o,vs,t0,ho,hc,hd,hdd,h0,h1⟩,_⟩:=(show ObjOk X.prog X.w H2 s2.heap a (yg a (.ref C) dd) from I2.hok a _ ea)
 obtain⟨oc,od,odt,osl⟩:=o;dsimp only at hc hd hdd;subst hc hd hdd;obtain⟨hh,g,d,tk,os⟩:=s2
 refine Dc (Pb (K:=X.K) si sv I2.kIn ho h0 fun h' e1 kp=>?_)
 refine⟨.non,_,I2.write (x:=a) (e:=a) (t':=tk) (by rw[ea];exact trivial) (.inl rfl) (fun b u hb q=>kp b u hb q) ⟨_,e1⟩ (Ig ⟨_,_,hh.objs.size,e1,rfl,rfl,rfl,?_,?_⟩),rfl,q⟩
 .rw[Array.getElem?_setIfInBounds_self_of_lt (Dr.mp h0).1]
 .rw[Array.getElem?_setIfInBounds_ne (by decide)];exact h1
def Ii (K:FG) (ta tv:TE):TS:=fun D σ H=>tv σ H fun y H1=>ta σ H1 fun x H2=> ∃a C z,x=.ref a/\y=.str z/\H2 a=some (yg a (.ref C) none)/\ExN K C/\∀d,H2 d=none->D.nx σ (zh (zh H2 a (yg a (.ref C) (some d))) d (.xd [(("name" :Str),V.str z)]))
def GN (ha:PE X o ta) (hv:PE X value tv) (hs:swapsWith value (some (.Attribute o "name" pos')) pos.line X.env=pure false:=by rfl):PS X (.Assign [.Attribute o "name" pos'] value pos) (Ii X.K ta tv):=by
 intro pins s σ H D I h
 refine plainObj_wpAny_Assign_Attribute (zn (hv pins s σ H _ I h) fun u s1 ⟨y,H1,I1,ry,q⟩=>zn (ha pins s1 σ H1 _ I1 q) fun ov s2 ⟨x,H2,I2,rx,a,C,z,ex,ey,ea,c,q2⟩=>?_) hs
 subst ex;subst ey;obtain rfl:ov=Value.ref a:=rx;obtain⟨t,rfl⟩:=(show RelV (.str z) u from ry)
 obtain⟨⟨o,vs,t0,ho,hc,hd,hdd,h0,h1⟩,_⟩:=(show ObjOk X.prog X.w H2 s2.heap a (yg a (.ref C) none) from I2.hok a _ ea)
 obtain⟨oc,od,odt,osl⟩:=o;dsimp only at hc hd hdd;subst hc hd hdd;obtain⟨hh,g,dr,tk,os⟩:=s2;have nd:H2 hh.objs.size=none:=I2.hok.fresh (Nat.le_refl _)
 refine OZ c I2.kIn ho fun h' tk' e1 hn kp=>?_
 have I3:=I2.write (x:=a) (e:=a) (o:=yg a (.ref C) (some hh.objs.size)) (h':=h') (t':=tk') (by rw[ea];exact trivial) (.inl rfl) (fun b u hb q=>kp b u hb q) ⟨_,e1⟩ (Ig ⟨_,_,t0,e1,rfl,rfl,rfl,h0,h1⟩)
 have ne:hh.objs.size≠a:=fun y=>by rw[<-y,nd]at ea;cases ea
 have F:=Inv.fpOk I2 (b:=hh.objs.size) (Nat.le_refl _) nd;have I4:=Inv.track (a:=hh.objs.size) (o:= .xd [(("name" :Str),V.str z)]) I3 (by rw[zj ne];exact nd) (by
  cases q:X.s₀.heap.get? hh.objs.size with
  |none=>rfl
  |some o=>exact absurd (Az (Aj q) I2.sz) (B6 _)) F.2.1 F.2.2.2.2.1 F.2.2.2.2.2 ⟨_,hn,fun f=>by
   by_cases hf:f="name"
   .subst hf;exact⟨t,rfl⟩
   .have e2:([(("name" :Str),V.str z)]:List (Str×V)).lookup f=none:=by
     rw[Bq,show (f==("name" :Str))=false from by simpa using hf];rfl
    rw[e2];show RelO none (if f="name" then _ else none)
    rw[Ab hf];trivial⟩
 exact⟨σ,_,I4,q2 _ nd⟩
def Q1 (K:FG) (ta:TE):TE:=fun σ H Q=>ta σ H fun x H1=> ∃a C d z,x=.ref a/\H1 a=some (zV a (.ref C) (some d))/\H1 d=some (.xd [(("name" :Str),V.str z)])/\ExN K C/\Q (.str z) H1
def Q2 (he:PE X e ta) (hb:attributeBase e "name" X.env (eval e X.env)=eval e X.env:=by rfl):PE X (.Attribute e "name" pos) (Q1 X.K ta):=by
 intro pins s σ H Q I h
 refine NB hb (zn (he pins s σ H _ I h) fun u s1 ⟨x,H1,I1,rx,a,C,d,z,ex,ea,ed,c,q⟩=>?_)
 subst ex;obtain rfl:u=Value.ref a:=rx;obtain⟨⟨o,vs,ho,hc,hd,hdd⟩,_⟩:=(show ObjOk X.prog X.w H1 s1.heap a (zV a (.ref C) (some d)) from I1.hok a _ ea)
 obtain⟨mA,hn,hr⟩:=(show ObjOk X.prog X.w H1 s1.heap d (.xd [(("name" :Str),V.str z)]) from I1.hok d _ ed)
 obtain⟨oc,od,odt,osl⟩:=o;dsimp only at hc hd hdd;subst hc hd hdd;have hv:=hr "name";rw[show ([(("name" :Str),V.str z)]:List (Str×V)).lookup ("name" :Str)=some (V.str z) from by rw[Bq,show (("name" :Str)==("name" :Str))=true from by simp]]at hv
 obtain⟨hh,g,dr,tk,os⟩:=s1;cases hm:mA "name" with
 |none=>rw[hm]at hv;exact hv.elim
 |some u=>
  rw[hm]at hv;obtain⟨t,rfl⟩:=(show RelV (.str z) u from hv)
  exact OW c I1.kIn ho hn.ns hm rfl ⟨.str z,H1,I1.tok _,⟨t,rfl⟩,q⟩
end
def Ij (K:FG) (C:Addr):Bool:=match K.lookup C with
 |some ⟨.type "type",_,.cls cd,sl⟩=>(match cd.mro,sl.toList with
  |.ref C'::bm,[_,_,_,_,some (.builtin n),_]=>C'==C && n=="ValueError.__new__" && !cd.hasDel && PySem.W.tailIn K qI bm
  |_,_=>false)
 |_=>false
structure XI (K:FG) (C f:Addr):Prop extends ExN K C where
 ex:Ij K C=true
 it':PySem.W.findIn K (.ref C) "__init__" =some (some (.ref f))
 fn:PySem.W.typeIn K (.ref f)=some (.type "function")
 sv:PySem.W.subIn K (.ref C) (.type "ValueError")=some true
 kp:PySem.W.keepIn K (.ref C)=true
def XI.own {K:FG} {C f:Addr} {h:Heap} (c:XI K C f) (X:K.In h):∃nm q N bs bm hdct sn sub ab col dd k0 k1 k2 k3 k5,h.get? C=some (excClassObj nm q C N bs bm hdct sn sub ab col dd k0 k1 k2 k3 k5 "ValueError.__new__")/\OwnTail h qI bm:=by
 have q:=c.ex;unfold Ij at q
 split at q
 case h_2=>cases q
 case h_1 dd cd sl ho=>
  split at q
  case h_2=>cases q
  case h_1 C' bm y0 y1 y2 y3 n y5 hm hs=>
   simp only[As,Af,Bool.not_eq_true']at q;obtain⟨⟨⟨e1,e2⟩,hdel⟩,ht⟩:=q;subst e1;subst e2;cases cd with
   |mk nm bs mro ns qn hd sn sub ab col del=>
   simp only at hm hdel;cases hm;cases hdel;have e:sl= #[y0,y1,y2,y3,some (.builtin "ValueError.__new__"),y5]:=Cr hs;cases e;exact⟨nm,qn,ns,bs,bm,hd,sn,sub,ab,col,dd,y0,y1,y2,y3,y5,X _ _ ho,PySem.W.tail_of_in X ht⟩
section
variable {prog:Program} {w:World} {A:Around} {E:VP} {h:Heap} {g:Array GenState} {d:Drawn} {t:Nat} {os:OsState} {K:FG} {f:Addr}
variable {nm q:Str} {C N:Addr} {bs bm:List Value} {hdct:Bool} {sn:List Str} {sub:List Value} {ab:Bool} {col:Option Bool} {dd:Option Addr} {k0 k1 k2 k3 k5:Option Value}
def Q3 (c:XI K C f) (X:K.In h) (T:OwnTail h qI bm) {rest:List Value} {Q:Fin->Shared->Prop}
  (hC:h.get? C=some (excClassObj nm q C N bs bm hdct sn sub ab col dd k0 k1 k2 k3 k5 "ValueError.__new__"))
  (hq:∀h' e,h.objs.size<=e->Heap.MadeExcOf h h' e (.ref C) rest->wpAny (model prog w) A (call (.ref f) (.ref e::rest)) (fun r s'=>r=.none/\Q (.done (.ret (.ref e))) s') E ⟨h',g,d,t,os⟩) (hrest:rest.length<=sizeLine):
  wpAny (model prog w) A (Builtin.«type.__call__» ⟨.ref C::rest,[]⟩) Q E ⟨h,g,d,t,os⟩:=by
 have F:=D9
 repeat (first|with_reducible refine Bw hC ?_|with_reducible refine wpAny_madeBy_exc hC ?_|wp_step)
 refine codeAny_call_builtin_code (Code.quiet_builtin _ F.quiet) (wpAny_check_new_subT F T hC ?_)
 refine codeAny_exc_new_subT F T hC ?_ hrest
 show wpAny _ _ _ _ _ _;generalize hH:((h.push {cls:= .type "tuple",data:= .seq rest.toArray}).push {cls:= .ref C,data:= .fields #[.ref h.objs.size,.none,.none,.none,.bool false,.none]})=h1;have kp:∀b o,h.get? b=some o->h1.get? b=some o:=fun b o e=>by rw[<-hH];exact Ao _ (Ao _ e)
 have hC1:=kp _ _ hC;have hget:h1.get? (h.objs.size+1)=some {cls:= .ref C,data:= .fields #[.ref h.objs.size,.none,.none,.none,.bool false,.none]}:=by rw[<-hH];heap_get
 have hcC:(Value.ref C::bm).contains (.ref C)=true:=by simp
 have X1:K.In h1:=X.keeps kp;unfold isInstance
 repeat (first|with_reducible refine Bw hget ?_|(with_reducible refine wpAny_isSubtype_exc hC1 ?_;rw[hcC])|wp_step)
 refine (Cq X1 c.it').at ?_
 refine Cy (Ae ((PySem.W.bind_fn X1 _ c.fn).at ?_))
 refine Ae (zn (hq h1 (h.objs.size+1) (De _) ⟨kp,Fo (De _),h.objs.size,hget,Fo (Nat.le_refl _),by rw[<-hH];exact Ao _ (Heap.get?_push_at rfl rfl)⟩) fun r s' z=>?_)
 obtain⟨rfl,z⟩:=z
 wp_walk
 exact z
def Q4 (c:XI K C f) (X:K.In h) (T:OwnTail h qI bm) {rest:List Value} {Q:VP}
  (hC:h.get? C=some (excClassObj nm q C N bs bm hdct sn sub ab col dd k0 k1 k2 k3 k5 "ValueError.__new__"))
  (hq:∀h' e,h.objs.size<=e->Heap.MadeExcOf h h' e (.ref C) rest->wpAny (model prog w) (A.under (.builtin "type.__call__" ⟨.ref C::rest,[]⟩)) (call (.ref f) (.ref e::rest)) (fun r s'=>r=.none/\Q (.ref e) s') E ⟨h',g,d,t,os⟩) (hrest:rest.length<=sizeLine):
  wpAny (model prog w) A (call (.ref C) rest) Q E ⟨h,g,d,t,os⟩:=by
 have f1:=tc_lookup;have f2:=tc_bind (.ref C);have hT:(⟨h,g,d,t,os⟩:Shared).TypeIs (.ref C) "type" :=⟨_,hC,rfl⟩
 refine Dc (codeAny_of_tree ?_)
 show wpAny _ _ (callAny (.ref C) _) _ _ _
 repeat (any_goals (first|assumption|with_reducible refine Bw hC ?_|wp_step))
 exact⟨rfl,codeAny_call_builtin_at (Code.quiet_builtin _ (by decide+kernel)) entry_typeCall (wpAny_check_type_call_sub hC (Q3 c X T hC (fun h' e ge hm=>hq h' e ge hm) hrest))⟩
end
end L2
namespace L4
open PySem PySem.W PyProof.Rows L2
noncomputable def GO (tb:String->Option Builtin) (p:Program) (w:World) (m:Nat) (ann:Option Value):Nat->SharedT->Thread->Option SharedT
 |0,_,_=>none
 |n+1,s,t=>match through t with
  |true=>some s
  |false=>match stepOk m ann t with
   |false=>none
   |true=>match stepT (denote tb) p w s t with
    |some (s',t')=>GO tb p w m ann n s' t'
    |none=>none
theorem KW {tb:String->Option Builtin} {p:Program} {w:World} {m:Nat} {ann:Option Value}:∀{n:Nat} {s s':SharedT} {t:Thread},GO tb p w m ann n s t=some s'->topRun tb p w m ann n s.abs t=some s'.abs
 |0,_,_,_,h=>by cases h
 |n+1,s,s',t,h=>by
  unfold GO at h;unfold topRun;cases he:through t with
  |true=>rw[he]at h;cases h;rfl
  |false=>
   rw[he]at h;cases hk:stepOk m ann t with
   |false=>rw[hk]at h;cases h
   |true=>
    rw[hk]at h;cases hs:stepT (denote tb) p w s t with
    |none=>rw[hs]at h;cases h
    |some r=>
     obtain⟨s2,t2⟩:=r;rw[hs]at h;rw[stepT_spec hs];exact KW h
noncomputable def KY:List Obj->Nat->BT->BT
 | [],_,t=>t
 |o::r,n,t=>KY r (n+1) (t.ins n o)
def boot (P:Params) (os:OsState):SharedT:=⟨KY (boot_heap P).objs.toList 0 .nil,11,(boot_heap P).life,Array.mk [],boot_drawn,boot_toks,os⟩
def Q5 (P:Params) (os:OsState):(boot P os).abs=⟨boot_heap P,Array.mk [],boot_drawn,boot_toks,os⟩:=by kernel_rfl
def Q6 (P:Params):((boot_heap P).isNs mainGlobals,(boot_heap P).objs.size,(boot_heap P).nsMap mainGlobals "__annotations__")=(true,11,some (.ref 6)):=by kernel_rfl
section
variable (p q:Program) (loose:List Str) {β:Type} (obs:Heap->β)
def looks (P:Params) (s:Shared):=
 ((staticsOk (importedModules p.main.body) (boot_heap P) s.heap && namesBound p s.heap && gensDone s && laidKept (boot_heap P) s.heap),openSeen q loose (importedModules p.main.body) (fun _=>true) true s,obs s.heap)
def KZ (N:Nat) (w:World) (os:OsState):=(GO treeTable p w 11 (some (.ref 6)) N (boot w.params os) (topStub p)).map fun s=>looks p q loose obs w.params s.abs
end
def left_one {p q:Program} {loose:List Str} {β:Type} {obs:Heap->β} {good:β} {N:Nat} (e:opening p=plainProg p.main.scope.names) (hN:Nat.ble 600 N=true) (f:∀s,fenceModules? p s=some s)
  (h:∀w os,KZ p q loose obs N w os=some (true,openGood q loose,good)):LeftO p q loose (fun _=>true) (fun s=>obs s.heap) (fun _=>good) N:=fun w=>by
 obtain⟨⟨h0,gs,d,k,os⟩,e1,e2⟩:=Fj.mp (boot_open e hN f w);obtain⟨rfl,rfl,rfl,rfl⟩:h0=boot_heap w.params/\gs=Array.mk []/\d=boot_drawn/\k=boot_toks:=by simpa using e2
 obtain⟨s1,r1,r2⟩:=Fj.mp (h w os);have r3:=KW r1;rw[Q5]at r3;obtain⟨z1,z2,z3⟩:_/\_/\_:=by simpa only[Dy] using Q6 w.params
 obtain⟨l1,l2,l3⟩:_/\_/\_:=by simpa only[looks,Dy] using r2
 have t:topFrom treeTable p w N ⟨boot_heap w.params,Array.mk [],boot_drawn,boot_toks,os⟩=some s1.abs:=by
  unfold topFrom;dsimp only;rw[z1,z2,z3,r3];show (match staticsOk (importedModules p.main.body) (boot_heap w.params) s1.abs.heap && namesBound p s1.abs.heap && gensDone s1.abs && laidKept (boot_heap w.params) s1.abs.heap with|true=>_|false=>_)=_
  rw[l1]
 unfold openEnds;rw[e1];show (topFrom treeTable p w N _).map _=_;rw[t];exact congrArg some (Prod.ext l2 l3)
noncomputable def frag (as:List Addr) (h:Heap):Frag:=as.filterMap fun a=>(h.get? a).map fun o=>(a,o)
def Q7 {as:List Addr} {h:Heap}:(frag as h).In h:=by
 intro a o e
 induction as with
 |nil=>cases e
 |cons b r ih=>
  unfold frag at e;rw[Er]at e;cases hb:h.get? b with
  |none=>rw[hb]at e;exact ih e
  |some ob=>
   rw[hb]at e;simp only[A4,List.lookup]at e
   split at e
   .rename_i q;cases e;rw[Af.mp q];exact hb
   .exact ih e
noncomputable def isNone:Value->Bool
 |.none=>true
 |_=>false
def Q8 {v:Value} (h:isNone v=true):v=.none:=by cases v<;>first|rfl|cases h
def ER (K:Frag) (qual:Str):Option (Option Value)->Option (Str×Str×Arguments×FuncBody×Scope×Bool)
 |some (some (.ref f))=>match K.lookup f with
  |some ⟨_,_,.func fd,_⟩=>some (fd.name,fd.qualname,fd.params,fd.body,fd.scope,(Nat.beq fd.globals mainGlobals && fd.closure.isEmpty && isNone fd.defaults && Nat.beq fd.builtins builtinsNs && codeIn K fd.code qual && isFn K (.ref f)))
  |_=>none
 |_=>none
def ES (x qual:Str) (st:Stmt):Option (Str×Str×Arguments×FuncBody×Scope×Bool):=some (x,qual,DU st,.stmts (qH st),zC st,true)
def Ik {K:Frag} {x qual:Str} {st:Stmt} {v:Option (Option Value)} (e:ER K qual v=ES x qual st):
  ∃f fd,v=some (some (.ref f))/\Fun K x qual st f fd/\isFn K (.ref f)=true:=by
 unfold ER at e
 split at e
 .rename_i f
  split at e
  .rename_i oc od fd sl hl
   unfold ES at e;simp only[Dx,Dy,As]at e;obtain⟨e1,e2,e3,e4,e5,⟨⟨⟨⟨h1,h2⟩,h3⟩,h4⟩,h5⟩,h6⟩:=e
   refine⟨f,fd,rfl,⟨⟨oc,od,fd.kwdefaults,fd.doc,fd.pyModule,fd.annotations,fd.code,fd.closureTuple,sl,?_,hl,h5⟩,?_⟩,h6⟩
   .obtain⟨a1,a2,a3,a4,a5,a6,a7,a8,a9,a10,a11,a12,a13,a14,a15⟩:=fd
    simp only at e1 e2 e3 e4 e5 h1 h2 h3 h4;have h1:=Fz h1;have h2:=List.isEmpty_iff.mp h2;have h3:=Q8 h3;have h4:=Fz h4;subst e1 e2 e3 e4 e5 h1 h2 h3 h4;rfl
   .unfold keepIn
    simp only[hl]
  .cases e
 .cases e
inductive KV where
 |int (i:Int)
 |str (s:Str)
noncomputable def Il:Option (Option Value)->Option KV
 |some (some (.int i _))=>some (.int i)
 |some (some (.str s _))=>some (.str s)
 |_=>none
def Q9 {v:Option (Option Value)} {i:Int} (e:Il v=some (.int i)):∃t,v=some (some (.int i t)):=by
 unfold Il at e
 split at e
 .simp only[Dx,KV.int.injEq]at e;subst e;exact⟨_,rfl⟩
 .simp at e
 .cases e
noncomputable def CA:Option (Option Value)->Bool
 |some none=>true
 |_=>false
def ET {v:Option (Option Value)} (e:CA v=true):v=some none:=by
 unfold CA at e
 split at e
 .rfl
 .cases e
noncomputable def CC (p:Program) (i:Nat):Stmt:=p.main.body.getD i (.Pass ⟨0,0,0,0⟩)
structure Ask where
 law:Nat
 at_:List Addr
 defs:List (Str×Nat)
 cls:List (Str×Nat×List (Str×Str×Nat)×List Str)
 bare:List Str
 con:List (Str×KV)
 exc:List (Str×Bool)
 tab:List (Str×Str×Bool)
 exi:List (Str×Str×Nat×Str×Nat)
noncomputable def La (K:Frag) (C:Addr):Bool:=
 plainGet K C Str.empty && hasDictIn K C && plainOver K C && (findIn K (.ref C) "__setattr__" ==some (some (.builtin "object.__setattr__"))) && makesIn K C && keepIn K (.ref C)
def Lb (K:Frag) (c:Str×Nat×List (Str×Str×Nat)×List Str):Option Value->Option (List (Option (Str×Str×Arguments×FuncBody×Scope×Bool))×Bool×List Bool)
 |some (.ref C)=>some (c.2.2.1.map (fun m=>ER K m.2.1 (findIn K (.ref C) m.1)),La K C,c.2.2.2.map fun a=>CA (findIn K (.ref C) a))
 |_=>none
def EU (K:Frag) (C:Addr):Bool:=
 excIn K C qI "ValueError.__new__" && (clsIn K C).isSome && (findIn K (.ref C) "__getattribute__" ==some (some (.builtin "BaseException.__getattribute__"))) && CA (findIn K (.ref C) "__getattr__") && (findIn K (.ref C) "__class__" ==some (some (.builtin "object.__class__"))) && (subIn K (.ref C) (.type "BaseException")==some true) && (subIn K (.ref C) (.type "object")==some true) && (subIn K (.ref C) (.type "ValueError")==some true) && keepIn K (.ref C)
def Lc (K:Frag) (b:Bool):Option Value->Bool
 |some (.ref C)=>match b with
  |true=>EU K C
  |false=>true
 |_=>false
noncomputable def Ld:Option CFound->Bool
 |some (.val (.builtin n))=>n=="ValueError.__init__"
 |_=>false
def Lf (K:Frag) (C B:Addr):Bool:=
 Ij K C && (clsIn K C).isSome && (findIn K (.ref C) "__getattribute__" ==some (some (.builtin "BaseException.__getattribute__"))) && CA (findIn K (.ref C) "__getattr__") && (findIn K (.ref C) "__class__" ==some (some (.builtin "object.__class__"))) && (subIn K (.ref C) (.type "BaseException")==some true) && (subIn K (.ref C) (.type "object")==some true) && CA (findIn K (.ref C) "name") && (clsIn K C).any (fun cd=>cd.hasDict && DX cd.mro) && (findIn K (.ref C) "__setattr__" ==some (some (.builtin "object.__setattr__"))) && (subIn K (.ref C) (.type "ValueError")==some true) && keepIn K (.ref C) &&
 (specialIn K (.ref B) "__getattribute__" ==some (some (.builtin "type.__getattribute__"))) && readsIn K B (.type "type") && Ld (findCls K (.ref B) (.type "type") "__init__")
def Lg (K:Frag) (q:Str):Option Value->Option Value->Option (Option (Str×Str×Arguments×FuncBody×Scope×Bool)×Bool)
 |some (.ref C),some (.ref B)=>some (ER K q (findIn K (.ref C) "__init__"),Lf K C B)
 |_,_=>none
noncomputable def QA (K:Frag) (v:Bool):Option Value->Option Value->Bool
 |some (.ref C),some (.ref B)=>exmOne K (.ref C) (.ref B)==some v && kitOne K (.ref C) (.ref B)==some v
 |_,_=>false
def seenK (A:Ask) (K:Frag):=
 (A.defs.map (fun d=>ER K d.1 (nsIn K mainGlobals d.1)),A.cls.map (fun c=>Lb K c (nsIn K mainGlobals c.1).join),A.bare.map (fun b=>CA (nsIn K mainGlobals b)),A.con.map (fun c=>Il (nsIn K mainGlobals c.1)),A.exc.map (fun c=>Lc K c.2 (nsIn K mainGlobals c.1).join),A.tab.map (fun r=>QA K r.2.2 (nsIn K mainGlobals r.1).join (nsIn K mainGlobals r.2.1).join),A.exi.map fun r=>Lg K r.2.2.2.1 (nsIn K mainGlobals r.1).join (nsIn K mainGlobals r.2.1).join)
def seen (A:Ask) (h:Heap):=seenK A (frag A.at_ h)
def good (p:Program) (A:Ask):=
 (A.defs.map (fun d=>ES d.1 d.1 (CC p d.2)),
  A.cls.map (fun c=>some (c.2.2.1.map (fun m=>ES m.1 m.2.1 (AJ (CC p c.2.1) m.2.2)),true,c.2.2.2.map fun _=>true)),
  A.bare.map (fun _=>true),A.con.map (fun c=>some c.2),A.exc.map (fun _=>true),A.tab.map (fun _=>true),A.exi.map fun r=>some (ES "__init__" r.2.2.2.1 (AJ (CC p r.2.2.1) r.2.2.2.2),true))
def lawView (A:Ask) (p:Program):Program:={p with main:={p.main with body:=[CC p A.law]}}
noncomputable def looseOf (p:Program):List Str:=(p.main.scope.names.map (·.1)).filter fun x=> !(x=="law")
section
variable {p:Program} {A:Ask} {K:Frag}
def AD {α β:Type} {f g:α->β} {l:List α} {i:Nat} {a:α} (e:l.map f=l.map g) (h:l[i]? =some a):f a=g a:=by
 have:=congrArg (fun z=>z[i]?) e
 simp only[Bl,h,A4,Dx]at this;exact this
def def_at (S:seenK A K=good p A) (i:Nat) {d:Str×Nat} (h:A.defs[i]? =some d):∃f fd,nsIn K mainGlobals d.1=some (some (.ref f))/\Fun K d.1 d.1 (CC p d.2) f fd:=by
 obtain⟨f,fd,e,F,_⟩:=Ik (AD (congrArg (fun z=>z.1) S) h)
 exact⟨f,fd,e,F⟩
def bare_at (S:seenK A K=good p A) (i:Nat) {b:Str} (h:A.bare[i]? =some b):nsIn K mainGlobals b=some none:=ET (AD (congrArg (fun z=>z.2.2.1) S) h)
def int_at (S:seenK A K=good p A) (i:Nat) {x:Str} {n:Int} (h:A.con[i]? =some (x,.int n)):∃t,nsIn K mainGlobals x=some (some (.int n t)):=Q9 (AD (congrArg (fun z=>z.2.2.2.1) S) h)
structure ClsAt (p:Program) (K:Frag) (c:Str×Nat×List (Str×Str×Nat)×List Str) (C:Addr):Prop where
 g:nsIn K mainGlobals c.1=some (some (.ref C))
 cls:Cls K C
 makes:makesIn K C=true
 kp:keepIn K (.ref C)=true
 meth:∀(j:Nat) (m:Str×Str×Nat),c.2.2.1[j]? =some m->∃f fd,findIn K (.ref C) m.1=some (some (.ref f))/\Fun K m.1 m.2.1 (AJ (CC p c.2.1) m.2.2) f fd/\isFn K (.ref f)=true
 fld:∀(j:Nat) (a:Str),c.2.2.2[j]? =some a->NoAttr K C a
def GP {v:Option (Option Value)} {x:Value} (h:v.join=some x):v=some (some x):=by
 cases v with
 |none=>cases h
 |some v=>cases h;rfl
def exc_at (S:seenK A K=good p A) (i:Nat) {x:Str} {b:Bool} (h:A.exc[i]? =some (x,b)):∃C,nsIn K mainGlobals x=some (some (.ref C))/\(b=true->excIn K C qI "ValueError.__new__" =true/\ExK K C):=by
 have e:=AD (congrArg (fun z=>z.2.2.2.2.1) S) h
 unfold Lc at e
 split at e
 .rename_i C hC
  refine⟨C,GP hC,fun hb=>?_⟩
  have hb:b=true:=hb;subst hb;have e:EU K C=true:=e;unfold EU at e;simp only[As]at e;obtain⟨⟨⟨⟨⟨⟨⟨⟨h1,h2⟩,h3⟩,h4⟩,h5⟩,h6⟩,h7⟩,h8⟩,_⟩:=e;exact⟨h1,h2,Af.mp h3,ET h4,Af.mp h5,Af.mp h6,Af.mp h7,Af.mp h8⟩
 .cases e
def kp_at (S:seenK A K=good p A) (i:Nat) {x:Str} {C:Addr} (h:A.exc[i]? =some (x,true)) (hC:nsIn K mainGlobals x=some (some (.ref C))):keepIn K (.ref C)=true:=by
 have e:=AD (congrArg (fun z=>z.2.2.2.2.1) S) h
 dsimp only at e;rw[hC]at e;have e:EU K C=true:=e;unfold EU at e;simp only[As]at e;exact e.2
def QB (S:seenK A K=good p A) (i:Nat) {x y:Str} {v:Bool} {C B:Addr} (h:A.tab[i]? =some (x,y,v)) (hC:nsIn K mainGlobals x=some (some (.ref C))) (hB:nsIn K mainGlobals y=some (some (.ref B))):exmOne K (.ref C) (.ref B)=some v/\kitOne K (.ref C) (.ref B)=some v:=by
 have e:=AD (congrArg (fun z=>z.2.2.2.2.2.1) S) h
 dsimp only at e;rw[hC,hB]at e;have e:(exmOne K (.ref C) (.ref B)==some v && kitOne K (.ref C) (.ref B)==some v)=true:=e;rw[As]at e;exact⟨Af.mp e.1,Af.mp e.2⟩
def xi_at (S:seenK A K=good p A) (i:Nat) {r:Str×Str×Nat×Str×Nat} (h:A.exi[i]? =some r):∃C B f fd,nsIn K mainGlobals r.1=some (some (.ref C))/\nsIn K mainGlobals r.2.1=some (some (.ref B))/\XI K C f/\CB K B/\Fun K "__init__" r.2.2.2.1 (AJ (CC p r.2.2.1) r.2.2.2.2) f fd:=by
 have e:=AD (congrArg (fun z=>z.2.2.2.2.2.2) S) h
 unfold Lg at e
 split at e
 .rename_i C B hC hB
  simp only[Dx,Dy]at e;obtain⟨e1,e2⟩:=e;obtain⟨f,fd,ef,F,isf⟩:=Ik e1;unfold Lf at e2;simp only[As]at e2;obtain⟨⟨⟨⟨⟨⟨⟨⟨⟨⟨⟨⟨⟨⟨h1,h2⟩,h3⟩,h4⟩,h5⟩,h6⟩,h7⟩,h8⟩,h9⟩,h10⟩,h11⟩,h12⟩,h13⟩,h14⟩,h15⟩:=e2
  refine⟨C,B,f,fd,GP hC,GP hB,⟨⟨⟨h2,Af.mp h3,ET h4,Af.mp h5,Af.mp h6,Af.mp h7,Af.mp h11⟩,ET h8,h9,Af.mp h10⟩,h1,ef,Af.mp isf,Af.mp h11,h12⟩,⟨Af.mp h13,h14,?_⟩,F⟩
  unfold Ld at h15
  split at h15
  .rename_i n hn
   rw[hn,Af.mp h15]
  .cases h15
 .cases e
def cls_at (S:seenK A K=good p A) (i:Nat) {c:Str×Nat×List (Str×Str×Nat)×List Str} (h:A.cls[i]? =some c):∃C,ClsAt p K c C:=by
 have e:=AD (congrArg (fun z=>z.2.1) S) h
 unfold Lb at e
 split at e
 .rename_i C hC
  simp only[Dx,Dy]at e;obtain⟨e1,e2,e3⟩:=e;unfold La at e2;simp only[As]at e2;obtain⟨⟨⟨⟨⟨h1,h2⟩,h3⟩,h4⟩,h5⟩,h6⟩:=e2
  refine⟨C,GP hC,⟨h1,h2,h3,?_⟩,h5,h6,fun j m hm=>?_,fun j a ha=>?_⟩
  .exact Af.mp h4
  .exact Ik (AD e1 hm)
  .exact ET (AD e3 ha)
 .cases e
end
section
variable {K:Frag} {x qual:Str} {st:Stmt} {f:Addr} {fd:FuncData} {p1 p2 p3 p4 p5 p6 p7 p8:Str}
abbrev Bd (x qual:Str) (st:Stmt) (us:List Value) (r:List (Str×Value)):Prop:=∀(kV doc pm:Value) (an:Option Addr) (cdv ct:Value),bindArgs (fnOf x qual (DU st) (qH st) (zC st) .none kV doc pm an cdv ct) ⟨us,[]⟩=pure r
def CY {us:List Value} {n:Nat} (h:us.length=n+1):∃a r,us=a::r/\r.length=n:=by
 cases us with
 |nil=>cases h
 |cons a r=>exact⟨a,r,rfl,by simpa using h⟩
theorem b1 (F:Fun K x qual st f fd) (h:∀a,Bd x qual st [a] [(p1,a)]):Binds K fd [p1] []:=F.binds fun _ _ _ _ _ _ us h0=>by
 obtain⟨a,u1,rfl,h1⟩:=CY h0;obtain rfl:u1=[]:=El h1;exact h _ _ _ _ _ _ _
theorem b2 (F:Fun K x qual st f fd) (h:∀a b,Bd x qual st [a,b] [(p1,a),(p2,b)]):Binds K fd [p1,p2] []:=F.binds fun _ _ _ _ _ _ us h0=>by
 obtain⟨a,u1,rfl,h1⟩:=CY h0;obtain⟨b,u2,rfl,h2⟩:=CY h1;obtain rfl:u2=[]:=El h2;exact h _ _ _ _ _ _ _ _
theorem b3 (F:Fun K x qual st f fd) (h:∀a b c,Bd x qual st [a,b,c] [(p1,a),(p2,b),(p3,c)]):Binds K fd [p1,p2,p3] []:=F.binds fun _ _ _ _ _ _ us h0=>by
 obtain⟨a,u1,rfl,h1⟩:=CY h0;obtain⟨b,u2,rfl,h2⟩:=CY h1;obtain⟨c,u3,rfl,h3⟩:=CY h2;obtain rfl:u3=[]:=El h3;exact h _ _ _ _ _ _ _ _ _
theorem binds_law (F:Fun K x qual st f fd) (h:∀a,Bd x qual st [a] [(p1,a)]) (s:Shared) (u:Value):BindsTo s fd ⟨[u],[]⟩ [(p1,u)]:=by
 obtain⟨oc,od,kV,doc,pm,an,cdv,ct,osl,rfl,lk,hcd⟩:=F.ex;exact .of_eq (h u _ _ _ _ _ _)
end
end L4
namespace L2
open PySem PySem.Spec PyProof.Rows
structure CloScope (N ps fs:List Str) (sc:Scope):Prop where
 kind:sc.kind=.function
 co:sc.isCoroutine=false
 gen:sc.isGenerator=false
 nd:N.Nodup
 pre:N.take (ps.length+fs.length)=ps++fs
 par:∀x∈ps,sc.names.lookup x=some .local
 fre:∀x∈fs,sc.names.lookup x=some .free
 nocell:∀y∈sc.names,y.2≠ .cell
 onlyf:∀y∈sc.names,y.2=.free->y.1∈fs
noncomputable def cxC (CX:yZ) (P:Program) (w:World) (K:FG) (mg:Str->Option Value) (base:Heap) (N:List Str) (qual:Str) (scope:Scope) (f:Addr) (cd:Value) (cl:List (Str×Addr)) (A:Around) (outer:List Env) (s:Shared) (H:Hp) (E:XK):Cx where
 prog:=P
 w:=w
 K:=K
 mg:=mg
 base:=base
 A:=A.deeper (PySem.W.envX qual scope s.heap.objs.size f cd cl)
 N:=N
 s₀:=s
 H₀:=H
 env:=PySem.W.envX qual scope s.heap.objs.size f cd cl
 outer:=outer
 stack:=PySem.W.envX qual scope s.heap.objs.size f cd cl::outer
 ex:=[]
 calm:=true
 fn:=fun x=>(cl.lookup x).isNone
 pn:=[]
 xe:=fun e s'=>wpAny (model P w) (A.deeper (PySem.W.envX qual scope s.heap.objs.size f cd cl)) (leaving (PySem.W.envX qual scope s.heap.objs.size f cd cl) e) (fun _ s''=>CX outer H s E e s'') (fun e' s''=>CX outer H s E e' s'') s'
theorem Lh {x:Str} {v:Value}:∀{l:List (Str×Value)},(l.map (·.1)).Nodup->(x,v)∈l->l.lookup x=some v
 | [],_,h=>by simp at h
 | (y,u)::r,nd,h=>by
  rw[Ak,B1]at nd;rw[Bq]
  rcases Ag.mp h with e|e
  .cases e;simp
  .have hne:x≠y:=fun z=>nd.1 (by subst z;exact C7.mpr ⟨(x,v),e,rfl⟩)
   have:(x==y)=false:=by simpa using hne
   rw[this];exact Lh nd.2 e
def QD {x:Str} {v:Value} {l:List (Str×Value)} (nd:(l.map (·.1)).Nodup) (h:(x,v)∈l):l.reverse.lookup x=some v:=
 Lh (by rw[List.map_reverse];exact (List.reverse_perm _).nodup_iff.mpr nd) (Fe.mpr h)
theorem Li:∀{ps:List Str} {us:List Value},ps.length=us.length->(ps.zip us).map (·.1)=ps
 | [],[],_=>rfl
 | [],_::_,h=>by simp at h
 |_::_,[],h=>by simp at h
 |p::ps,u::us,h=>by rw[List.zip_cons_cons,Ak,Li (by simpa using h)]
def Held (base:Heap) (cl:List (Str×Addr)) (fs:List Str) (ws:List V):Prop:=
 (∀x∈fs,∃c,cl.lookup x=some c)/\(∀x y c,cl.lookup x=some c->cl.lookup y=some c->x=y)/\
 ∀x c,cl.lookup x=some c->∃o u,base.get? c=some o/\o.data=.cell (some u)/\∀i:Nat,fs[i]? =some x->∃v,ws[i]? =some v/\RelV v u
def QE {CX:yZ} {P:Program} {w:World} {K:FG} {mg:Str->Option Value} {base:Heap} {N ps fs:List Str} {qual:Str} {scope:Scope} {f:Addr} {cd:Value} {cl:List (Str×Addr)} {A:Around} {outer:List Env} {s:Shared} {H:Hp} {E:XK} {us:List Value} {vs ws:List V}
  (S:CloScope N ps fs scope) (hd:A.handled=none) (e0:Env0 P w K mg base A outer s H) (hl:vs.length=ps.length) (hw:ws.length=fs.length) (r:Vals vs us) (hc:Held base cl fs ws) {h1:Heap} {tk:Nat}
  (hns:h1.Ns s.heap.objs.size fun x=>(ps.zip us).reverse.lookup x) (hk:∀b o,s.heap.get? b=some o->h1.get? b=some o):
  Inv (cxC CX P w K mg base N qual scope f cd cl A outer s H E) [] (start N (vs++ws)) H {s with heap:=h1,toks:=tk}:=by
 have hpl:ps.length+fs.length<=N.length:=by have:=congrArg List.length S.pre;rw[A5,An]at this;lia
 have noA:∀b:Addr,b∉(cxC CX P w K mg base N qual scope f cd cl A outer s H E).ex:=fun b z=>absurd (show b∈([]:List Addr) from z) (by simp)
 have hu:us.length=ps.length:=by rw[<-r.length];exact hl
 have isc:∀x c,cl.lookup x=some c->∃u,h1.IsCell c (some u)/\(∀i:Nat,fs[i]? =some x->∃v,ws[i]? =some v/\RelV v u)/\H c=none:=fun x c e=>by
  obtain⟨o,u,e1,e2,e3⟩:=hc.2.2 x c e;exact⟨u,⟨o,hk _ _ (e0.bs c o e1).1,e2⟩,e3,(e0.bs c o e1).2⟩
 refine⟨⟨e0.mod,S.kind,rfl,rfl,Nat.le_refl _,fun y z c h1 h2=>hc.2.1 y z c h1 h2,fun y hy=>?_,fun y c hf h=>?_,fun _=>hd,Around.frames_deeper e0.frames,.inr ⟨rfl,rfl⟩,fun b z=>absurd z (noA b),e0.bs,e0.bsz,fun b _ _=>noA b,fun b z=>absurd z (noA b),e0.funs,e0.frf⟩,
  rfl,e0.bare,Un.kept hk,⟨_,hns,fun i y v h1 h2 h3=>?_⟩,fun y c h=>let ⟨u,q,_⟩:=isc y c h;⟨_,q⟩,e0.hok.fresh (Nat.le_refl _),fun y c h=>let ⟨_,_,_,q⟩:=isc y c h;q,fun p hp=>absurd (show p∈([]:AL) from hp) (by simp),e0.hok.kept hk,?_⟩
 .have hy:scope.names.lookup y=some .cell\/scope.names.lookup y=some .free:=hy
  rcases hy with hy|hy
  .exact absurd rfl (S.nocell _ (Ca hy))
  .exact hc.1 y (S.onlyf _ (Ca hy) rfl)
 .have hf:(cl.lookup y).isNone=true:=hf
  have h:cl.lookup y=some c:=h;rw[h]at hf;cases hf
 .have hi:i<(vs++ws).length:=by
   unfold start at h2
   by_cases hi:i<(vs++ws).length
   .exact hi
   .rw[Bk (by simpa using hi)]at h2
    rw[Ex]at h2
    split at h2<;>cases h2
  have ha:(vs++ws)[i]? =some v:=by
   unfold start at h2;rw[A8 (by simpa using hi),Bl]at h2
   cases e:(vs++ws)[i]? with
   |none=>rw[e]at h2;cases h2
   |some a=>rw[e]at h2;cases h2;rfl
  have hp:(ps++fs)[i]? =some y:=by
   rw[<-S.pre,Bv (by rw[An]at hi;lia)];exact h1
  by_cases hlt:i<vs.length
  .rw[A8 hlt]at ha
   rw[A8 (by lia)]at hp
   obtain⟨u,hu',rv⟩:=r.get ha
   refine⟨u,rv,.inl ⟨S.par y (Am hp),?_⟩⟩
   have ndP:ps.Nodup:=by
    have:=S.nd.sublist (List.take_sublist (ps.length+fs.length) N);rw[S.pre]at this;exact (List.nodup_append.mp this).1
   refine QD (by rw[Li hu.symm];exact ndP) ?_
   refine Am (i:=i) ?_
   rw[List.getElem?_zip_eq_some]
   exact⟨hp,hu'⟩
  .rw[Bk (by lia)]at ha
   rw[Bk (by lia),<-hl]at hp
   obtain⟨c,ec⟩:=hc.1 y (Am hp);obtain⟨u,q,e3,_⟩:=isc y c ec;obtain⟨v',hv',rv⟩:=e3 _ hp;rw[ha]at hv';cases hv';exact⟨u,rv,.inr ⟨.inr (S.fre y (Am hp)),c,ec,q⟩⟩
 .unfold start
  show _=N.length;simp only[An,Ap,B2];lia
def yK (f:Addr) (o:Obj):HO:= .ext fun h=>h.get? f=some o
def yU (c:Addr) (qual:Str):HO:= .ext fun h=>h.CodeRec (.ref c) qual
def Lj {P:Program} {w:World} {H:Hp} {h:Heap} {f:Addr} {o:Obj} (e:h.get? f=some o):ObjOk P w H h f (yK f o):=⟨e,⟨o,e⟩,fun _ _ e k=>k _ e⟩
def QF {P:Program} {w:World} {H:Hp} {h:Heap} {c:Addr} {q:Str} (e:h.CodeRec (.ref c) q):ObjOk P w H h c (yU c q):=by
 refine⟨e,?_,fun h1 h2 z k=>?_⟩
 .obtain⟨c',o,vs,t,e1,e2,_⟩:=e;cases e1;exact⟨o,e2⟩
 .obtain⟨c',o,vs,t,e1,e2,e3⟩:=z;cases e1;exact⟨c,o,vs,t,rfl,k _ e2,e3⟩
def CodeHd.keeps {h h':Heap} {c P:Addr} (x:PySem.W.CodeHd h c P) (k:∀b o,h.get? b=some o->h'.get? b=some o):PySem.W.CodeHd h' c P:=by
 obtain⟨o,vs,fl,tf,fs,tg,inF,tx,tt,e,r⟩:=x;exact⟨o,vs,fl,tf,fs,tg,inF,tx,tt,k _ _ e,r⟩
def BuiltinsAt.keeps {h h':Heap} {mg:Str->Option Value} {P:Addr} (x:h.BuiltinsAt mg P) (k:∀b o,h.get? b=some o->h'.get? b=some o):h'.BuiltinsAt mg P:=by
 obtain⟨bm,o,e1,e2,e3,e4,e5,r⟩:=x;exact⟨bm,o,e1,e2,e3,e4,k _ _ e5,r⟩
abbrev defH (H:Hp) (P c f:Addr) (ps:Array Value) (q:Str) (o:Obj):Hp:=zh (zh (zh H P (.tbl ps)) c (yU c q)) f (yK f o)
section
variable {X:Cx} {pins:AL} {σ:St} {H:Hp} {s:Shared}
def QG {P c f:Addr} {ps:Array Value} {q:Str} {o:Obj} {h':Heap} {tk:Nat} (I:Inv X pins σ H s) (hP:H P=some (.tbl #[])) (ex:Heap.ExtBut P s.heap h') (hc:s.heap.objs.size<=c) (hlt:c<h'.objs.size) (hcr:h'.CodeRec (.ref c) q)
  (ht:h'.get? P=some (PySem.W.tabObj ps)) (hf:f=h'.objs.size) (ho:o.isFreed=false):Inv X pins σ (defH H P c f ps q o) {s with heap:=h'.push o,toks:=tk}/\H f=none/\H c=none/\f≠c/\f≠P/\c≠P:=by
 subst hf;have szP:P<s.heap.objs.size:=I.hok.lt hP;have szh:s.heap.objs.size<=h'.objs.size:=Cp (Nat.lt_of_le_of_lt hc hlt);have nf:H h'.objs.size=none:=I.hok.fresh szh;have nc:H c=none:=I.hok.fresh hc;have fc:h'.objs.size≠c:=Cz hlt;have fP:h'.objs.size≠P:=Cz (Az szP szh);have cP:c≠P:=Cz (Az szP hc);have old:∀{b:Addr} {u:HO},H b=some u->u≠ .tbl #[]->defH H P c h'.objs.size ps q o b=some u:=fun {b u} e n=>by
  unfold defH;rw[zj (ym e nf),zj (ym e nc),zj (MH e hP n)];exact e
 have kp:∀b ob,b≠P->s.heap.get? b=some ob->(h'.push o).get? b=some ob:=fun b ob n e=>Ao _ (ex b ob n e)
 have eP:(h'.push o).get? P=some (PySem.W.tabObj ps):=Ao _ ht;have ef:(h'.push o).get? h'.objs.size=some o:=Bn h' ho;have un:Un X.fs [] H (defH H P c h'.objs.size ps q o) s.heap (h'.push o):=by
  refine⟨fun b ob e n _ _=>kp b ob (fun z=>by subst z;rw[hP]at n;cases n) e,fun b ob e n _ _=>⟨ob.slots,kp b ob (fun z=>by subst z;rw[hP]at n;cases n) e⟩,fun b ob e n _=>?_,fun b ob e _=>?_,fun b xs e=>old e (by intro z;cases z),fun b ob u e=>old e (by intro z;cases z),fun b qs e=>?_⟩
  .have hb:=Aj e
   unfold defH;rw[zj (Au (Az hb szh)),zj (Au (Az hb hc)),zj (fun z=>by subst z;rw[hP]at n;cases n)];exact n
  .by_cases hb:b=P
   .subst hb;exact⟨_,eP⟩
   .exact⟨_,kp b ob hb e⟩
  .by_cases hb:b=P
   .subst hb
    rw[hP]at e;cases e;exact⟨ps,by unfold defH;rw[zj (Av fP),zj (Av cP),zF];simp⟩
   .exact⟨#[],by unfold defH;rw[zj (ym e nf),zj (ym e nc),zj hb,e];simp⟩
 have hok:HOk X.prog X.w (defH H P c h'.objs.size ps q o) (h'.push o):=fun b u e=>by
  unfold defH at e
  by_cases b1:b=h'.objs.size
  .subst b1;rw[zF]at e;cases e;exact Lj ef
  .rw[zj b1]at e
   by_cases b2:b=c
   .subst b2;rw[zF]at e;cases e
    obtain⟨c',oc,vs,t,e1,e2,e3⟩:=hcr;exact QF ⟨c',oc,vs,t,e1,Ao _ e2,e3⟩
   .rw[zj b2]at e
    by_cases b3:b=P
    .subst b3;rw[zF]at e;cases e;exact eP
    .rw[zj b3]at e
     refine (I.hok b u e).stay (fun b' v hb' r=>kp b' v ?_ r) (fun b' r=>old r (by intro z;cases z)) fun b' xs r=>old r (by intro z;cases z)
     rcases hb' with rfl|hb'
     .exact b3
     .intro z;subst z;rw[hP]at hb';cases hb'
 exact⟨I.un un hok,nf,nc,fc,fP,cP⟩
end
end L2
namespace L3
open PySem PySem.Spec PyProof.Rows L2
section
variable {X:Cx} {κ:Kx} {E:XK} {F F1 F2 F':Fr} {σ σ':L2.St} {H H1 H2 H':Hp} {Q:VK} {p:Addr} {e a b o:Expr} {es:List Expr} {pos apos np cpos hp:Pos} {i:Nat} {D:Ends}
def qh (c:Str) (t:A3):D3:=fun s h=>(t s h).bindS fun fs h1=>if fs.length<=1000 then .ex ⟨c,none⟩ h1 else .no
def EV {c x:Str} {C:Addr} {t:A3} (hk:κ.cl c=some C) (xc:XCl X.K X.mg x C) (hc:X.calm=true) (hg:Gl X x) (hr:HH X E) (ha:PA X (e::es) (zG κ E t)) (hs:SE X e es:=by rfl) (hpl:(backTo cpos (starEach es X.env)).any (·.1)=false:=by rfl)
  (hd:(x==("__debug__" :Str))=false:=by decide):PS X (.Raise (some (.Call (.Name x np) (e::es) [] cpos)) none pos) (zl κ E (qh c t)):=
 qo (OE xc hc hg hr ha hs hpl hd) fun D σ H ⟨F,rel,ht,o⟩=>(bindS (K:=kA κ) rel ht o).mono fun vs H1 ⟨β1,h1,fs,e1,⟨r1,rf⟩,o1⟩=>by
  by_cases hl:fs.length<=1000
  .rw[Aa hl]at o1
   exact⟨by rw[<-rf.length];exact hl,o1 (F.to β1 h1) H1 (SExt.of0 ht e1) (r1.heap.sub fun a ha=>.inr (.inr ha)) C none hk rfl⟩
  .rw[Ab hl]at o1;exact o1.elim
abbrev Hd:=Str×Option Nat×D3
def noEx:O3->O3
 |.ex _ _=>.no
 |o=>o
noncomputable def asN (i:Nat):O3->O3
 |.nx s h=>.nx (s.set i none) h
 |.bk s h=>.bk (s.set i none) h
 |.ct s h=>.ct (s.set i none) h
 |.rt r h=>.rt r h
 |_=>.no
noncomputable def pick (mt:Str->Str->Option Bool) (x:X3) (s:S3) (h:H3):List Hd->O3
 | []=>.no
 | (B,n,k)::r=>match mt x.c B with
  |some true=>match n with
   |none=>noEx (k s h)
   |some i=>if i<s.length then asN i (k (s.set i (some (.v (.fn x.c x.nm.toList)))) h) else .no
  |some false=>pick mt x s h r
  |none=>.no
def CD (mt:Str->Str->Option Bool) (j:Option Nat) (f:F3) (t:A3) (hs:List Hd):D3:=fun s h=>match t s h with
 |.ok fs h1=>match vals3 fs with
  |some vs=>match f vs h1 with
   |.ok r h2=>match j with
    |some i=>if i<s.length then .nx (s.set i (some r)) h2 else .no
    |none=>.nx s h2
   |.ex x h2=>pick mt x s h2 hs
   |.no=>.no
  |none=>.no
 |_=>.no
def trOf (κ:Kx) (E:XK) (mt:Str->Str->Option Bool) (hs:List Hd):Value->Option Addr->TS:=fun cls dd D σ H=> ∃F x C,Rel κ F σ H/\F.T=[]/\κ.cl x.c=some C/\cls=.ref C/\XD F.β F.O H dd x.nm.toList/\SOut κ E F H D (pick mt x F.s F.h hs)
def phw {hs:List ExceptHandler} {t t':Value->Option Addr->TS} (h:PHs X hs t) (w:∀cls dd D σ H,t' cls dd D σ H->t cls dd D σ H):PHs X hs t':=fun pins σ H s D a cls dd c q=>h pins σ H s D a cls dd c (w cls dd D σ H q)
def QH {mt:Str->Str->Option Bool}:PHs X [] (trOf κ E mt []):=phw OM fun cls dd D σ H ⟨F,x,C,_,_,_,_,_,o⟩=>o
def MtOk (κ:Kx) (mt:Str->Str->Option Bool) (B:Str) (Ba:Addr):Prop:=∀c C v,κ.cl c=some C->mt c B=some v->PySem.W.exmOne κ.K (.ref C) (.ref Ba)=some v
def QI {f:F3} {t:A3} {n:Nat} {mt:Str->Str->Option Bool} {hs:List Hd} (hf:zq f n) (h:zl κ E (CD mt none f t hs) D σ H):
  DT (zm κ n f) [] (fun cls dd H'=>trOf κ E mt hs cls dd D σ H') (zG κ E0 t) σ H (fun _ H1=>D.nx σ H1):=by
 obtain⟨F,rel,ht,o⟩:=h;unfold CD at o
 refine⟨F,rel,?_⟩
 cases q:t F.s F.h with
 |no=>rw[q]at o;exact o.elim
 |ex x h1=>rw[q]at o;exact o.elim
 |ok fs h1=>
  rw[q]at o;intro β1 vs H1 e1 ⟨r1,rf⟩;cases q2:vals3 fs with
  |none=>simp only[q2]at o;exact o.elim
  |some xs=>
   simp only[q2]at o;have hr:=BL rf q2;rw[Bo]
   refine⟨F.O,β1,xs,h1,?_,r1.heap,hr,?_⟩
   .refine Fh fun n=>?_
    rw[hf xs h1 (by rw[hr.length];exact n)]at o
    exact o
   .have e0:SExt F H (F.to β1 h1) H1:=SExt.of0 ht e1
    cases q3:f xs h1 with
    |no=>rw[q3]at o;exact o.elim
    |ex x h2=>
     rw[q3]at o;intro β' H' e' rh C dd hC xd;have r2:Rel κ ((F.to β1 h1).to β' h2) σ H':=r1.next e' rh;exact⟨_,x,C,r2,ht,hC,rfl,xd,SOut.move (e0.trans (SExt.of0 (h':=h2) ht e')) o⟩
    |ok r h2=>
     rw[q3]at o
     refine FOut.of (E:=fun cls dd H'=>trOf κ E mt hs cls dd D σ H') r1 ?_
     intro β' v H' e' p1;have e2:SExt F H ((F.to β1 h1).to β' h2) H':=e0.trans (SExt.of0 (h':=h2) ht e')
     refine o ((F.to β1 h1).to β' h2) σ H' e2 rfl rfl ?_
     cases r with
     |v x=>exact p1.1
     |m c=>obtain⟨p,rfl,r1,r2,hp⟩:=p1;exact r1.drop
def QJ {x:Str} {f:F3} {t:A3} {k n:Nat} {fa:Addr} {fd:FuncData} {ps:List Str} {mt:Str->Str->Option Bool} {hs:List Hd} {h₀:ExceptHandler} {hh:List ExceptHandler} (hf:zq f n) (Fk:FnOk X.prog X.w X.K X.mg X.base (XT X.prog X.w) k fa fd ps (zm κ n f)) (hr:Room k X.A) (hg:Gl X x) (hm:X.mg x=some (.ref fa)) (hk:PySem.W.keepIn X.K (.ref fa)=true) (hb:Binds X.K fd ps [])
  (ha:∀pn W,PA ((X.pinned pn).wish W) (e::es) (zG κ E0 t)) (hst:X.stack=X.env::X.outer) (hfm:X.env.frame=some X.env.locals) (hex:X.ex=[]) (hp:PHs X (h₀::hh) (trOf κ E mt hs))
  (hdb:(x==("__debug__" :Str))=false:=by decide) (he:SE X e es:=by rfl) (hpl:(backTo cpos (starEach es X.env)).any (·.1)=false:=by rfl)
  (hs0:swapsWith (.Call (.Name x np) (e::es) [] cpos) none apos.line X.env=pure false:=by rfl):
  PS X (.Try [.Expr (.Call (.Name x np) (e::es) [] cpos) apos] (h₀::hh) [] [] pos) (zl κ E (CD mt none f t hs)):=
 qo (ON (tb:=fun E' D σ H=>DT (zm κ n f) [] E' (zG κ E0 t) σ H (fun _ H1=>D.nx σ H1)) hst hfm hex (fun pn σ₀ E'=>CK (AS (X:=(X.pinned pn).wish (DW X pn σ₀ E')) (OI (X:=(X.pinned pn).wish (DW X pn σ₀ E')) Fk hr hg hm hk hb .nil OJ (ha pn _) hdb he hpl) hs0)) hp) fun D σ H h=>QI hf h
def Rel.unset (rel:Rel κ F σ H):Rel κ {F with s:=F.s.set i none} (σ.set i none) H where
 heap:=rel.heap
 slen:=by show (F.s.set i none).length=_;rw[Bb,Bb];exact rel.slen
 llen:=by show F.l.length=(F.s.set i none).length;rw[Bb];exact rel.llen
 linj:=rel.linj
 lt:=rel.lt
 lo:=rel.lo
 to:=rel.to
 tn:=rel.tn
 slot:=fun j x hj=>by
  have hj:(F.s.set i none)[j]? =some (some x):=hj
  by_cases e:j=i
  .subst e
   by_cases hl:j<F.s.length
   .rw[Es hl]at hj;cases hj
   .rw[Ea (by rw[Bb];lia)]at hj;cases hj
  .rw[D4 (Av e)]at hj
   obtain⟨v,h1,h2⟩:=rel.slot j x hj;exact⟨v,by rw[D4 (Av e)];exact h1,h2⟩
def SExt.unset (e:SExt F H F' H'):SExt F H {F' with s:=F'.s.set i none} H':=⟨e.ext,e.lam,e.oi,e.tt⟩
theorem SOut.asN {o:O3} (h:SOut κ E F H D (asN i o)):SOut κ E0 F H {nx:=fun σ' H'=>D.nx (σ'.set i none) H',rt:=D.rt,bk:=fun σ' H'=>D.bk (σ'.set i none) H',ct:=fun σ' H'=>D.ct (σ'.set i none) H'} o:=by
 cases o with
 |ex x h'=>exact h.elim
 |no=>exact h
 |nx s h'=>exact fun F' σ' H' e es eh r=>h _ _ H' e.unset (by show F'.s.set i none=_;rw[es]) eh r.unset
 |bk s h'=>exact fun F' σ' H' e es eh r=>h _ _ H' e.unset (by show F'.s.set i none=_;rw[es]) eh r.unset
 |ct s h'=>exact fun F' σ' H' e es eh r=>h _ _ H' e.unset (by show F'.s.set i none=_;rw[es]) eh r.unset
 |rt r h'=>exact h
def QK {x m:Str} {B:Str} {Ba:Addr} {mt:Str->Str->Option Bool} {hs:List ExceptHandler} {b₀:Stmt} {suite:List Stmt} {k:D3} {r:List Hd} (hK:X.K=κ.K) (hM:MtOk κ mt B Ba) (hN:X.N.Nodup) (hi:X.N[i]? =some m) (hlo:Loc X.env.scope m) (hkd:X.env.kindOf m=some .local) (hg:Gl X x) (hm:X.mg x=some (.ref Ba))
  (hs0:∀e,yk ((X.suite e).wish xNil) (b₀::suite) (zl κ E0 k)) (hr:PHs X hs (trOf κ E mt r)) (hd:(x==("__debug__" :Str))=false:=by decide) (hf:X.fn m=true\/X.env.scope.names.lookup m=some .local:=by first|exact .inl rfl|exact .inr rfl|assumption):
  PHs X (.ExceptHandler (some (.Name x np)) (some m) (b₀::suite) hp::hs) (trOf κ E mt ((B,some i,k)::r)):=phw (OL hN hi hlo hkd hg hm hs0 hr hd hf) fun cls dd D σ H ⟨F,y,C,rel,ht,hC,hcl,xd,o⟩=>by
 subst hcl;unfold pick at o;cases q:mt y.c B with
 |none=>rw[q]at o;exact o.elim
 |some v=>
  rw[q]at o;have ex:=hM y.c C v hC q;rw[<-hK]at ex;cases v with
  |true=>
   refine .inl ⟨ex,fun a ha=>?_⟩
   by_cases hi':i<F.s.length
   .simp only[Aa hi']at o
    have e1:Ext No F.β H F.β (zh H a (zV a (.ref C) dd)):=yh ha;have nb:some a∉F.β:=fun z=>by
     obtain⟨j,hj⟩:=Cw z;obtain⟨u,hu,_⟩:=rel.heap.btr j a hj;rw[ha]at hu;cases hu
    have no: ¬F.O a:=fun z=>by
     obtain⟨u,hu,_⟩:=rel.heap.trk a z;rw[ha]at hu;cases hu
    have r1:Rel κ F σ (zh H a (zV a (.ref C) dd)):=rel.laid ha;exact⟨F.setV i (.fn y.c y.nm.toList),r1.setV (.exc hC zF nb no (xd.imp fun d u h n q=>⟨by rw[zj (fun z=>by subst z;rw[ha]at h;cases h)];exact h,n,q⟩)) hi',ht,SOut.asN (SOut.move ((SExt.of0 (h':=F.h) ht e1).trans (SExt.setN ht)) o)⟩
   .simp only[Ab hi']at o;exact o.elim
  |false=>exact .inr ⟨ex,F,y,C,rel,ht,hC,rfl,xd,o⟩
end
section
variable {X:Cx} {κ:Kx} {E:XK} {F:Fr} {σ:L2.St} {H:Hp} {Q:VK} {e:Expr} {es:List Expr} {pos p:Pos} {i:Nat}
def QM {N:List Str} {n:Nat} {b:D3} {vs:List V} (hpl:n<=N.length) (h:zm κ n (fun3 n N.length b) vs H Q E):zl κ E b {nx:=fun _ H'=>Q .non H',rt:=Q} (start N vs) H:=by
 obtain⟨O,β,vs3,h3,hl,rh,rv,o⟩:=h;have rel:=Kw (N:=N) rh rv (by lia)
 refine⟨_,rel,rfl,?_⟩
 unfold fun3 at o;rw[Aa (by rw[rv.length];exact hl)]at o
 generalize hF:(⟨O,[],β,List.replicate N.length none,start3 N.length vs3,h3⟩:Fr)=F0 at rel;have e0:F0.s=start3 N.length vs3/\F0.h=h3/\F0.β=β/\F0.Oi=O/\∀a,some a∉F0.l:=by subst hF;exact⟨rfl,rfl,rfl,rfl,fun a=>qE⟩
 obtain⟨es,eh,eb,eo,el⟩:=e0;rw[es,eh];have ext:∀{F':Fr} {H':Hp},SExt F0 H F' H'->Ext No β H F'.β H':=fun {F' H'} se=>⟨fun a u h n _=>se.ext.keep a u h (by rw[eb];exact n) (el a),by rw[<-eb];exact se.ext.len,fun i a hi h=>by
  have:=se.ext.bet i a (by rw[eb];exact hi) h
  rw[eb]at this;exact this,se.ext.there,fun i a hi h=>se.ext.nwb i a (by rw[eb];exact hi) h⟩
 have hO:∀{F':Fr} {H':Hp},SExt F0 H F' H'->∀a,O a->F'.O a:=fun {F' H'} se a ha=>.inr (.inr (by rw[se.oi,eo];exact ha))
 cases q:b (start3 N.length vs3) h3 with
 |nx s1 h1=>
  rw[q]at o;exact fun F' σ' H' se _ h' r'=>o F'.β .non H' (ext se) ⟨by rw[<-h'];exact r'.heap.sub (hO se),.non⟩
 |rt r h1=>
  rw[q]at o;intro F' σ' v H' se h' p
  refine o F'.β v H' (ext se) ?_
  cases r with
  |v x=>exact⟨by rw[<-h'];exact p.1.heap.sub (hO se),Rep.sub (hO se) p.2⟩
  |m c=>
   obtain⟨p,h1,h2,h3',h4⟩:=p;have hs:∀a,a=p\/O a->(F'.with p).O a:=fun a ha=>ha.elim (fun z=>.inl (by rw[z];exact Ax)) fun z=>Fr.O_with (hO se a z)
   refine⟨p,h1,by rw[<-h'];exact h2.heap.sub hs,h3'.sub hs,h4.elim (fun z=>absurd z (el p)) id,fun z=>h2.apart (hO se p z)⟩
 |bk s1 h1=>rw[q]at o;exact (show False from o).elim
 |ct s1 h1=>rw[q]at o;exact (show False from o).elim
 |no=>rw[q]at o;exact o
 |ex x h1=>
  rw[q]at o;intro F' H' se r';have z:=o F'.β H' (ext se) (by rw[se.oi,eo]at r';exact r')
  rw[se.oi,eo];exact z
end
def noX {P:Program} {w:World} {H:Hp} {s:Shared} {e:Value} {s':Shared} (h:XT P w [] H s (fun _ _ _=>False) e s'):False:=by
 obtain⟨_,_,_,_,_,_,_,_,_,_,_,_,_,_,_,_,q⟩:=h;exact q
end L3
namespace L3
open PySem L2
def GQ {a b:D3} {s s1:S3} {h h1:H3} (e:a s h=.nx s1 h1):sSeq a b s h=b s1 h1:=by unfold sSeq;rw[e]
def QN {ok:H3->Prop} {g:G3} {b:D3} {h:H3} {Q:O3->Prop} (I:Nat->S3->Prop) {xs:List V3} {s:S3} (hok:ok h) (h0:I 0 s)
  (step:∀(i:Nat) x s,xs[i]? =some x->I i s->∃s1,g x s=some s1/\((∃s2,(b s1 h=.nx s2 h\/b s1 h=.ct s2 h)/\I (i+1) s2)\/(∃r h2,b s1 h=.rt r h2/\Q (.rt r h2))\/∃s2,b s1 h=.bk s2 h/\Q (.nx s2 h)))
  (done:∀s,I xs.length s->Q (.nx s h)):Q (zR ok g b xs s h):=by
 have gen:∀(n i:Nat) (s:S3),n=xs.length-i->i<=xs.length->I i s->Q (zR ok g b (xs.drop i) s h):=by
  intro n
  induction n with
  |zero=>
   intro i s hn hi hI;have:i=xs.length:=by lia
   subst this;rw[Cu];unfold zR;rw[Aa hok];exact done s hI
  |succ n ih=>
   intro i s hn hi hI;have hlt:i<xs.length:=by lia
   rw[Ef hlt];unfold zR;rw[Aa hok];obtain⟨s1,hg,hs⟩:=step i xs[i] s (z0 hlt) hI;simp only[hg]
   rcases hs with ⟨s2,hb,hI2⟩|⟨r,h2,hb,hq⟩|⟨s2,hb,hq⟩
   .rcases hb with hb|hb<;>simp only[hb]<;>exact ih (i+1) s2 (by lia) hlt hI2
   .simp only[hb];exact hq
   .simp only[hb];exact hq
 exact gen _ 0 s rfl (B9 _) h0
def Im {ok:H3->Prop} {g:G3} {b:D3} {h:H3} (I:Nat->S3->Prop) {xs:List V3} {s:S3} (hok:ok h) (h0:I 0 s)
  (step:∀(i:Nat) x s,xs[i]? =some x->I i s->∃s1 s2,g x s=some s1/\b s1 h=.nx s2 h/\I (i+1) s2):∃s',zR ok g b xs s h=.nx s' h/\I xs.length s':=by
 refine QN (Q:=fun o=> ∃s',o=.nx s' h/\I xs.length s') I hok h0 (fun i x s hx hI=>?_) fun s hI=>⟨s,rfl,hI⟩
 obtain⟨s1,s2,h1,h2,h3⟩:=step i x s hx hI;exact⟨s1,h1,.inl ⟨s2,.inl h2,h3⟩⟩
def Lk {α:Type} {ok:H3->Prop} {g:G3} {e:E3} {h:H3} (I:S3->Prop) (enc:α->V3) (f:α->V3) (hok:ok h) {l:List α} (hl:l.length<=sizeLine)
  (step:∀a s,a∈l->I s->∃s1 r,g (enc a) s=some s1/\I s1/\e s1 h=.ok r h/\r.fz=some (f a)) {s:S3} (h0:I s):
  qe ok g tTru e (l.map enc) [] s h=.ok (l.map f) h:=by
 have gen:∀(l:List α) (acc:List V3) (s:S3),acc.length+l.length<=sizeLine->(∀a s,a∈l->I s->∃s1 r,g (enc a) s=some s1/\I s1/\e s1 h=.ok r h/\r.fz=some (f a))->I s->qe ok g tTru e (l.map enc) acc s h=.ok (acc++l.map f) h:=by
  intro l
  induction l with
  |nil=>intro acc s _ _ _;rw[Bf];unfold qe;rw[Aa hok];simp
  |cons x r ih=>
   intro acc s hl st hI;rw[Ak];unfold qe;rw[Aa hok];obtain⟨s1,v,h1,h2,h5,h6⟩:=st x s Ax hI;rw[Ay]at hl;simp only[h1,tTru,h5,h6,Aa (show acc.length<sizeLine by lia)]
   rw[ih (acc++[f x]) s1 (by rw[An,D8];lia) (fun x s hx=>st x s (A1 _ hx)) h2]
   simp
 have:=gen l [] s (by simpa using hl) step h0
 simpa using this
def QO (l:List Int):zN int3 (l.map .int)=some l:=by
 have:=GF (f:=int3) (g:=V3.int) (k:=id) (fun _=>rfl) l
 simpa using this
def QP (l:List Bool):zN bl3 (l.map .bl)=some l:=by
 have:=GF (f:=bl3) (g:=V3.bl) (k:=id) (fun _=>rfl) l
 simpa using this
def at0 {α:Type} {x:α} {r:List α}:atI (x::r) (0:Int)=some x:=AC (j:=0) rfl
def at1 {α:Type} {x y:α} {r:List α}:atI (x::y::r) (1:Int)=some y:=AC (j:=1) rfl
def at2 {α:Type} {x y z:α} {r:List α}:atI (x::y::z::r) (2:Int)=some z:=AC (j:=2) rfl
def at3 {α:Type} {x y z u:α} {r:List α}:atI (x::y::z::u::r) (3:Int)=some u:=AC (j:=3) rfl
def at4 {α:Type} {x y z u v:α} {r:List α}:atI (x::y::z::u::v::r) (4:Int)=some v:=AC (j:=4) rfl
def atm1 {α:Type} {l:List α} {x:α}:atI (l++[x]) (-1:Int)=some x:=Oa l x
def GR {i j:Int} (h: -(2 ^ 64)<i/\i<2 ^ 64):CMul i j:= .inl h
def QQ {i j:Int} (h: -(2 ^ 64)<j/\j<2 ^ 64):CMul i j:= .inr h
def Ll {h:H3} {n:Nat} {x y:V3} {a b:V} (hx:yT h x=.f a) (hy:yT h y=.f b):ya h n x y=some (eqV a b):=by
 cases n<;>simp only[ya,hx,hy]
def EW {h:H3} {n:Nat} {i j:Int}:ya h n (.int i) (.int j)=some (decide (i=j)):=by
 rw[Ll (a:= .int i) (b:= .int j) rfl rfl];congr 1
def QR {h:H3} {n:Nat} {i j:Str}:ya h n (.str i) (.str j)=some (decide (i=j)):=by
 rw[Ll (a:= .str i) (b:= .str j) rfl rfl];congr 1
def nx_ite {c:Prop} [Decidable c] {a b:S3} {h:H3}:(if c then O3.nx a h else O3.nx b h)=O3.nx (if c then a else b) h:=by split<;>rfl
def rt_ite {c:Prop} [Decidable c] {a b:Vl} {h:H3}:(if c then O3.rt a h else O3.rt b h)=O3.rt (if c then a else b) h:=by split<;>rfl
def ok_ite {α:Type} {c:Prop} [Decidable c] {a b:α} {h:H3}:(if c then Res.ok a h else Res.ok b h)=Res.ok (if c then a else b) h:=by split<;>rfl
def cons_ite {α:Type} {c:Prop} [Decidable c] {a b:α} {x y:List α}:(if c then a::x else b::y)=(if c then a else b)::(if c then x else y):=by split<;>rfl
def some_ite {α:Type} {c:Prop} [Decidable c] {a b:α}:(if c then some a else some b)=some (if c then a else b):=by split<;>rfl
def v_ite {c:Prop} [Decidable c] {a b:V3}:(if c then Vl.v a else Vl.v b)=Vl.v (if c then a else b):=by split<;>rfl
def int_ite {c:Prop} [Decidable c] {a b:Int}:(if c then V3.int a else V3.int b)=V3.int (if c then a else b):=by split<;>rfl
def bl_ite {c:Prop} [Decidable c] {a b:Bool}:(if c then V3.bl a else V3.bl b)=V3.bl (if c then a else b):=by split<;>rfl
def oEq_int {s:S3} {h:H3} {i j:Int}:z9 s h (.x (.int i)) (.x (.int j))=some (.v (.bl (decide (i=j)))):=by
 unfold z9 qB;simp only[rdm,rdl,EW,A4]
def oNe_int {s:S3} {h:H3} {i j:Int}:yO s h (.x (.int i)) (.x (.int j))=some (.v (.bl (!decide (i=j)))):=by
 unfold yO qB;simp only[rdm,rdl,EW,A4]
def oAdd_int {s:S3} {h:H3} {i j:Int}:zk s h (.x (.int i)) (.x (.int j))=some (.v (.int (i+j))):=rfl
def oAddI_int {s:S3} {h:H3} {i j:Int}:BO s h (.x (.int i)) (.x (.int j))=some (.v (.int (i+j))):=rfl
def oSub_int {s:S3} {h:H3} {i j:Int}:oSub s h (.x (.int i)) (.x (.int j))=some (.v (.int (i-j))):=rfl
def oMul_int {s:S3} {h:H3} {i j:Int} (c:CMul i j):zY s h (.x (.int i)) (.x (.int j))=some (.v (.int (i*j))):=by
 unfold zY yV GA oI;simp only[Aa c,A4]
def oDiv_int {s:S3} {h:H3} {i j:Int} (a:0<j) (b:j<1073741824):oDiv s h (.x (.int i)) (.x (.int j))=some (.v (.int (i / j))):=by
 unfold oDiv oI;simp only[Aa (show CDiv i j from ⟨a,b⟩),A4]
def oMod_int {s:S3} {h:H3} {i j:Int} (c:0<j):zx s h (.x (.int i)) (.x (.int j))=some (.v (.int (i%j))):=by
 unfold zx oI;simp only[Aa c,A4]
def oShr_int {s:S3} {h:H3} {i j:Int} (c:0<=j):oShr s h (.x (.int i)) (.x (.int j))=some (.v (.int (i / 2 ^ j.toNat))):=by
 unfold oShr oI;simp only[Aa c,A4]
def oPow_int {s:S3} {h:H3} {i j:Int} (c:CPow i j):zU s h (.x (.int i)) (.x (.int j))=some (.v (.int (i ^ j.toNat))):=by
 unfold zU oI;simp only[Aa c,A4]
def oAndI_int {s:S3} {h:H3} {i j:Int}:PX s h (.x (.int i)) (.x (.int j))=some (.v (.int (Builtin.bitAnd i j))):=rfl
def oLt_int {s:S3} {h:H3} {i j:Int}:oLt s h (.x (.int i)) (.x (.int j))=some (.v (.bl (decide (i<j)))):=rfl
def oLe_int {s:S3} {h:H3} {i j:Int}:oLe s h (.x (.int i)) (.x (.int j))=some (.v (.bl (decide (i<=j)))):=rfl
def oGt_int {s:S3} {h:H3} {i j:Int}:oGt s h (.x (.int i)) (.x (.int j))=some (.v (.bl (decide (j<i)))):=rfl
def oGe_int {s:S3} {h:H3} {i j:Int}:oGe s h (.x (.int i)) (.x (.int j))=some (.v (.bl (decide (j<=i)))):=rfl
def oIx_tup {s:S3} {h:H3} {xs:List V3} {i:Int}:zD s h (.x (.tup xs)) (.x (.int i))=(atI xs i).map .v:=by
 unfold zD yV oIxT oIxL oIxS;simp only[rdl];cases atI xs i<;>rfl
def oIx_lst {s:S3} {h:H3} {xs:List V3} {i:Int}:zD s h (.x (.lst xs)) (.x (.int i))=(atI xs i).map .v:=by
 unfold zD yV oIxT oIxL oIxS;simp only[rdl];cases atI xs i<;>rfl
def oIx_scr {s:S3} {h:H3} {ns:List Int} {i:Int}:zD s h (.x (.scr ns)) (.x (.int i))=(atI (ns.map .int) i).map .v:=by
 unfold zD yV oIxT oIxL oIxS;simp only[rdl];cases atI (ns.map V3.int) i<;>rfl
def sMt_ap {op:FM} {p:P3} {a:A3} {s:S3} {h:H3}:qJ op p a s h=mtO op p a (fun s h _=>.nx s h) s h:=rfl
def mAppend_ok {xs:List V3} {y:V3} (h:xs.length<sizeLine):y6 xs [y]=some (xs++[y],.non):=by unfold y6;simp only[Aa h]
def yL:1000000<=sizeLine:=by decide
def sz0:(0<=sizeLine)=True:=by simp
def sz1:(1<=sizeLine)=True:=eq_true (by have:=yL;lia)
def sz2:(2<=sizeLine)=True:=eq_true (by have:=yL;lia)
def sz3:(3<=sizeLine)=True:=eq_true (by have:=yL;lia)
def sz4:(4<=sizeLine)=True:=eq_true (by have:=yL;lia)
def sz5:(5<=sizeLine)=True:=eq_true (by have:=yL;lia)
noncomputable def gb (g:G3) (b:D3) (x:V3) (s:S3) (h:H3):O3:=match g x s with
 |some s1=>b s1 h
 |none=>.no
def BE {Q:Res Vl->Prop} {k n:Nat} {b:D3} {vs:List V3} {h:H3} (hl:vs.length=k) (q:Q ((b (start3 n vs) h).res)):Q (fun3 k n b vs h):=by
 unfold fun3;rw[Aa hl];exact q
def QS {α:Type} {p:P3} {g:G3} {b:D3} {s:S3} {h:H3} {x:V3} {ok:H3->Prop} {enc:α->V3} {l:List α} (ep:p s h=.ok (.x x) h) (hw:y9 h x=some (l.map enc,ok))
  (I:Nat->S3->Prop) (h0:I 0 s) (step:∀(i:Nat) a s,l[i]? =some a->I i s->∃s2,gb g b (enc a) s h=.nx s2 h/\I (i+1) s2):∃s',zI (iL p) g b s h=.nx s' h/\I l.length s':=by
 have hf:zI (iL p) g b s h=zR ok g b (l.map enc) s h:=by
  unfold zI iL;simp only[ep,Res.bind,Res.bindS,hw]
 rw[hf];have:=Im (ok:=ok) (g:=g) (b:=b) (h:=h) I (xs:=l.map enc) (s:=s) (EE hw).1 h0 fun i x s hx hI=>by
  rw[Bl]at hx;obtain⟨a,ha,rfl⟩:=Fj.1 hx;obtain⟨s2,e,hI2⟩:=step i a s ha hI;unfold gb at e;cases q:g (enc a) s with
  |none=>rw[q]at e;cases e
  |some s1=>rw[q]at e;exact⟨s1,s2,rfl,e,hI2⟩
 rwa [Ap]at this
def QT {Q:O3->Prop} {α:Type} {p:P3} {g:G3} {b r:D3} {s:S3} {h:H3} {x:V3} {ok:H3->Prop} {enc:α->V3} {l:List α} (ep:p s h=.ok (.x x) h) (hw:y9 h x=some (l.map enc,ok))
  (I:Nat->S3->Prop) (h0:I 0 s) (step:∀(i:Nat) a s,l[i]? =some a->I i s->∃s2,gb g b (enc a) s h=.nx s2 h/\I (i+1) s2) (k:∀s',I l.length s'->Q (r s' h)):Q (sSeq (zI (iL p) g b) r s h):=by
 obtain⟨s',e,hI⟩:=QS ep hw I h0 step;rw[GQ e];exact k s' hI
def QU {a:A3} {g:G3} {b:D3} {s:S3} {h:H3} {j:Int} (ea:a s h=.ok [.x (.int j)] h) (hj: -(2 ^ 62)<=j/\j<2 ^ 62)
  (I:Nat->S3->Prop) (h0:I 0 s) (step:∀(i:Nat) s,i<j.toNat->I i s->∃s2,gb g b (.int (i:Int)) s h=.nx s2 h/\I (i+1) s2):∃s',zI (qt a) g b s h=.nx s' h/\I j.toNat s':=by
 have hf:zI (qt a) g b s h=zR (fun _=>True) g b ((List.range j.toNat).map fun k=>.int (0+((k:Nat):Int))) s h:=by
  unfold zI qt;simp only[ea,Res.bind,Res.bindS,Aa hj]
 rw[hf];have:=Im (ok:=fun _=>True) (g:=g) (b:=b) (h:=h) I (xs:=(List.range j.toNat).map fun k=>.int (0+((k:Nat):Int))) (s:=s) trivial h0 fun i x s hx hI=>by
  have hi:i<j.toNat:=by
   have:=Aq.1 hx;simpa using this.1
  rw[Bl,List.getElem?_range hi]at hx
  cases hx;obtain⟨s2,e,hI2⟩:=step i s hi hI;simp only[Int.zero_add];unfold gb at e;cases q:g (.int i) s with
  |none=>rw[q]at e;cases e
  |some s1=>rw[q]at e;exact⟨s1,s2,rfl,e,hI2⟩
 rwa [Ap,List.length_range]at this
def QV {Q:O3->Prop} {a:A3} {g:G3} {b r:D3} {s:S3} {h:H3} {j:Int} (ea:a s h=.ok [.x (.int j)] h) (hj: -(2 ^ 62)<=j/\j<2 ^ 62)
  (I:Nat->S3->Prop) (h0:I 0 s) (step:∀(i:Nat) s,i<j.toNat->I i s->∃s2,gb g b (.int (i:Int)) s h=.nx s2 h/\I (i+1) s2) (k:∀s',I j.toNat s'->Q (r s' h)):Q (sSeq (zI (qt a) g b) r s h):=by
 obtain⟨s',e,hI⟩:=QU ea hj I h0 step;rw[GQ e];exact k s' hI
def zO {Q:Res Vl->Prop} {a b:D3} {s s1:S3} {h h1:H3} (e:a s h=.nx s1 h1) (q:Q ((b s1 h1).res)):Q ((sSeq a b s h).res):=by rw[GQ e];exact q
def QW {Q:Res Vl->Prop} {a:A3} {g:G3} {b r:D3} {s:S3} {h:H3} {j:Int} (ea:a s h=.ok [.x (.int j)] h) (hj: -(2 ^ 62)<=j/\j<2 ^ 62)
  (I:Nat->S3->Prop) (h0:I 0 s) (step:∀(i:Nat) s,i<j.toNat->I i s->∃s2,gb g b (.int (i:Int)) s h=.nx s2 h/\I (i+1) s2) (k:∀s',I j.toNat s'->Q ((r s' h).res)):Q ((sSeq (zI (qt a) g b) r s h).res):=
 QV (Q:=fun o=>Q o.res) ea hj I h0 step k
def QX {Q:Res Vl->Prop} {α:Type} {p:P3} {g:G3} {b r:D3} {s:S3} {h:H3} {x:V3} {ok:H3->Prop} {enc:α->V3} {l:List α} (ep:p s h=.ok (.x x) h) (hw:y9 h x=some (l.map enc,ok))
  (I:Nat->S3->Prop) (h0:I 0 s) (step:∀(i:Nat) a s,l[i]? =some a->I i s->∃s2,gb g b (enc a) s h=.nx s2 h/\I (i+1) s2) (k:∀s',I l.length s'->Q ((r s' h).res)):Q ((sSeq (zI (iL p) g b) r s h).res):=
 QT (Q:=fun o=>Q o.res) ep hw I h0 step k
end L3
namespace L3
open PySem PySem.Spec PyProof.Rows L2
section
variable {X:Cx} {κ:Kx} {E:XK} {F F':Fr} {σ σ':L2.St} {H H1 H':Hp} {Q:VK} {p:Addr} {e a b c o:Expr} {pos apos np cpos:Pos} {i:Nat} {D:Ends} {β:AO} {O:Addr->Prop}
noncomputable def yq:E3:=fun _ h=>.ok (.m (.dT [])) h
def Lm:PE X (.Dict [] [] pos) (zi κ E yq):=yu Pe fun σ H Q ⟨F,rel,o⟩ p hp=>o F.β (.ref p) _ (yh hp) (Post.dT rel hp .nil)
end
end L3
namespace L2
open PySem PySem.Spec PyProof.Rows
def GS (T:Addr) (H:Hp):Prop:=H T=some (.tbl #[])/\∀b,b≠T->H b=none\/∃o xs,H b=some (.frz o (.lst xs))
def QY {P:Program} {w:World} {K:FG} {mg mb:Str->Option Value} {CX:yZ} {k:Nat} {fa a c T:Addr} {fd:FuncData} {x:Str} {sp:Sp} {s₁:Shared} {vs:List Value} {ns:List Int}
  (KX:K.In s₁.heap) (hns:s₁.heap.Ns mainGlobals mg) (hb:s₁.heap.Ns builtinsNs mb) (hbb:∀x:Str,x≠"__name__" ->mb x=bootBuiltins x) (hlim:s₁.heap.NoLimit) (hg:s₁.gens= #[])
  (ha:s₁.heap.get? a=some {cls:= .type "list",data:= .seq vs.toArray}) (hi:IntsAre vs ns) (hl:ns.length<=sizeLine) (hr:Room k callerA)
  (hcd:PySem.W.CodeHd s₁.heap c T) (htb:s₁.heap.get? T=some (PySem.W.tabObj #[])) (hKT:K.lookup T=none) (hba:s₁.heap.BuiltinsAt mg T)
  (F:∀base:Heap,K.In base->base.Ns mainGlobals mg->PySem.W.CodeHd base c T->base.BuiltinsAt mg T->FnOk P w K mg base CX k fa fd [x] sp) (hbind:∀(s:Shared) (u:Value),BindsTo s fd ⟨[u],[]⟩ [(x,u)])
  (hsp:∀H:Hp,GS T H->SqL K H a (ns.map V.int)->sp [.ref a] H (fun v _=>v=.bl true) fun _ _ _=>False)
  (hCX:∀H e s',CX [] H s₁ (fun _ _ _=>False) e s'->False):
  codeAny (model P w) callerA (.call (.ref fa) ⟨[.ref a],[]⟩) (fun r s'=>r=.ok (.ret (.bool true))/\OldK s₁.heap s'.heap/\s'.os=s₁.os/\AllBare s'.gens) s₁:=by
 have rv:=JM hi;have lenV:=hi.length;have aT:a≠T:=fun z=>by subst z;rw[ha]at htb;cases htb
 have core:∀H:Hp,GS T H->SqL K H a (ns.map V.int)->HOk P w H s₁.heap->(∀b,H b≠none->b=a\/b=T)->(H a≠none->K.lookup a=none)->
   codeAny (model P w) callerA (.call (.ref fa) ⟨[.ref a],[]⟩) (fun r s'=>r=.ok (.ret (.bool true))/\OldK s₁.heap s'.heap/\s'.os=s₁.os/\AllBare s'.gens) s₁:=by
  intro H hO hS hok hA hK;have base_of:∀{b:Addr} {o:Obj},s₁.heap.get? b=some o->H b=none->(yG s₁.heap H).get? b=some o:=fun e n=>MJ e n
  have un:∀{b:Addr} {o:Obj},s₁.heap.get? b=some o->o.cls≠ .type "list" ->o.cls≠ .none->H b=none:=fun {b o} e n1 n2=>by
   cases q:H b with
   |none=>rfl
   |some u=>
    rcases hA b (by rw[q];simp) with rfl|rfl
    .rw[ha]at e;cases e;exact absurd rfl n1
    .rw[htb]at e;cases e;exact absurd rfl n2
  have noA:∀{b:Addr} {o:Obj} {es:Array DictEntry} {ep:Nat},s₁.heap.get? b=some o->o.data=.dict es ep->H b=none:=fun {b o es ep} e d=>by
   cases q:H b with
   |none=>rfl
   |some u=>
    rcases hA b (by rw[q];simp) with rfl|rfl
    .rw[ha]at e;cases e
     have d':Data.seq vs.toArray _=Data.dict es ep:=d;cases d'
    .rw[htb]at e;cases e
     have d':Data.fields #[]=Data.dict es ep:=d;cases d'
  have nsK:∀{b:Addr} {m:Str->Option Value},s₁.heap.Ns b m->(yG s₁.heap H).Ns b m:=fun {b m} ⟨o,es,ep,e,d,r⟩=>⟨o,es,ep,base_of e (noA e d),d,r⟩
  have hKb:K.In (yG s₁.heap H):=fun b o e=>base_of (KX b o e) (by
   cases q:H b with
   |none=>rfl
   |some u=>
    rcases hA b (by rw[q];simp) with rfl|rfl
    .rw[hK (by rw[q];simp)]at e;cases e
    .rw[hKT]at e;cases e)
  have hM:Mod K mg (yG s₁.heap H):=⟨hKb,nsK hns,⟨mb,nsK hb,hbb⟩,let ⟨mc,h1,h2⟩:=hlim;⟨mc,nsK h1,h2⟩⟩;have hcb:PySem.W.CodeHd (yG s₁.heap H) c T:=by
   obtain⟨o,ws,fl,tf,fs,tg,inF,tx,tt,e,d,r⟩:=hcd;exact⟨o,ws,fl,tf,fs,tg,inF,tx,tt,base_of e (un e (by rw[d];decide) (by rw[d];decide)),d,r⟩
  have hbb':(yG s₁.heap H).BuiltinsAt mg T:=by
   obtain⟨bm,o,e1,e2,e3,e4,e5,d,r⟩:=hba;exact⟨bm,o,e1,e2,e3,e4,base_of e5 (un e5 (by rw[d];decide) (by rw[d];decide)),d,r⟩
  have e0:Env0 P w K mg (yG s₁.heap H) callerA [] s₁ H:=⟨rfl,hM,fun b o e=>ML e,Nat.le_of_eq (MI _ _),trivial,fun b hb=>absurd (show b∈([]:List Addr) from hb) (by simp),hok,.of_eq hg⟩
  refine Dd ((F _ hKb (nsK hns) hcb hbb').run callerA [] s₁ H ⟨[.ref a],[]⟩ [.ref a] [.ref a] _ _ hr e0 (hbind s₁ (.ref a)) (.cons rfl .nil) (hsp H hO hS)) fun r s' h=>?_
  cases r with
  |error e=>exact (hCX H e s' h).elim
  |ok fl=>
   cases fl with
   |next=>exact False.elim h
   |brk=>exact False.elim h
   |cont=>exact False.elim h
   |ret u=>
    obtain⟨v,H',os,bare,un',hok',r',q⟩:=h;have q':v=.bl true:=q;subst q';obtain rfl:u=Value.bool true:=r';have isT:isCodeTable s₁.heap T:=by
     obtain⟨o,ws,fl,tf,fs,tg,inF,tx,tt,e,d1,d2,d3,_⟩:=hcd;exact⟨c,o,ws,e,d1,d2,d3⟩
    obtain⟨more,hT'⟩:=un'.tbls T #[] hO.1;have gT:s'.heap.get? T=some {cls:= .none,data:= .fields (#[]++more)}:=hok' T _ hT'
    refine⟨rfl,⟨fun b o e=>?_,fun b o e=>un'.there b o e (by simp)⟩,os,bare⟩
    by_cases hbT:b=T
    .subst hbT
     rw[htb]at e;cases e;exact .inr (.inl ⟨isT,rfl,#[],more,rfl,gT⟩)
    .refine .inl ?_
     cases q:H b with
     |none=>exact un'.keep b o e q (by intro z;exact absurd (show b∈([]:List Addr) from z) (by simp)) (by simp)
     |some u=>
      rcases hO.2 b hbT with z|⟨ob,xs,z⟩
      .rw[q]at z;cases z
      .have z2:=un'.frzs b ob _ z
       obtain⟨e1,_⟩:=hok b _ z;obtain⟨e2,_⟩:=hok' b _ z2;rw[e]at e1;cases e1;exact e2
 have tOk:∀H:Hp,ObjOk P w H s₁.heap T (.tbl #[]):=fun H=>htb
 cases hk:K.lookup a with
 |some o=>
  have e:=KX a o hk;rw[ha]at e;cases e
  refine core (zh (fun _=>none) T (.tbl #[])) ⟨zF,fun b hb=>.inl (zj hb)⟩ (.inr ⟨_,vs.toArray,_,hk,rfl,rfl,rfl,by rw[Al,lenV];exact hl,by simpa using rv⟩) (fun b u z=>?_) (fun b z=>.inr (Fh fun n=>z (zj n))) fun z=>absurd (zj aT) z
  by_cases hb:b=T
  .subst hb;rw[zF]at z;cases z;exact tOk _
  .rw[zj hb]at z;cases z
 |none=>
  refine core (zh (fun b=>if b=a then some (.frz {cls:= .type "list",data:= .seq vs.toArray} (.lst (ns.map V.int))) else none) T (.tbl #[])) ⟨zF,fun b hb=>?_⟩ (.inl (.inr ⟨{cls:= .type "list",data:= .seq vs.toArray},by rw[zj aT];exact Aa rfl⟩)) (fun b u z=>?_) (fun b z=>?_) fun _=>hk
  .rw[zj hb]
   by_cases hb:b=a
   .exact .inr ⟨_,_,Aa hb⟩
   .exact .inl (Ab hb)
  .by_cases hbT:b=T
   .subst hbT;rw[zF]at z;cases z;exact tOk _
   .rw[zj hbT]at z
    by_cases hb:b=a
    .have z':=(Aa hb).symm.trans z
     cases z';subst hb;exact⟨ha,by rw[Ap];exact hl,vs,_,rv,ha⟩
    .have z':=(Ab hb).symm.trans z
     cases z'
  .by_cases hbT:b=T
   .exact .inr hbT
   .rw[zj hbT]at z
    by_cases hb:b=a
    .exact .inl hb
    .exact absurd (Ab hb) z
end L2
namespace L3
open PySem PySem.Spec PyProof.Rows L2
def spLT (K:FG) (T:Addr):Sp:=fun vs H Q _=> ∃(a:Addr) (ns:List Int),vs=[.ref a]/\ns.length<=63/\SqL K H a (ns.map V.int)/\GS T H/\∀H',Q (.bl true) H'
def spLT_of {κ:Kx} {f:F3} (h:∀ns:List Int,ns.length<=63->∃h',f [.scr ns] [.tab]=.ok (.v (.bl true)) h') {vs:List V} {H:Hp} {Q:VK} {E:XK} (q:spLT κ.K κ.tb vs H Q E):zm κ 1 f vs H Q E:=by
 obtain⟨a,ns,rfl,hn,hS,hO,hQ⟩:=q;obtain⟨h',e⟩:=h ns hn
 refine⟨fun _=>False,[some κ.tb],[.scr ns],[.tab],rfl,⟨rfl,fun i j a h1 h2=>?_,fun a h=>h.elim,fun a h=>h.elim,fun i a h=>?_,fun i c h=>?_⟩,.cons ?_ .nil,?_⟩
 .have hi:=(Aq.mp h1).1
  have hj:=(Aq.mp h2).1;simp at hi hj;lia
 .have hi:=(Aq.mp h).1
  have hi0:i=0:=by simpa using hi
  subst hi0;have h:some κ.tb=some a:=by simpa using h
  cases h;exact⟨_,hO.1,by intro ys z;cases z⟩
 .have hi:=(Aq.mp h).1
  have hi0:i=0:=by simpa using hi
  subst hi0;have h:C3.tab=c:=by simpa using h
  subst h;exact .inr ⟨κ.tb,rfl,rfl,hO.1⟩
 .have nT:∀{u},H a=some u->u≠ .tbl #[]->a≠κ.tb:=fun {u} e n z=>by subst z;rw[hO.1]at e;cases e;exact n rfl
  rcases hS with hS|hS
  .rcases hS with hS|⟨o,hS⟩
   .rcases hO.2 a (nT hS (by intro z;cases z)) with z|⟨o,xs,z⟩
    .rw[hS]at z;cases z
    .rw[hS]at z;cases z
   .exact .scr hS (by have:=nT hS (by intro z;cases z);simpa using this) fun z=>z
  .exact .scrK hS
 .rw[e]
  intro β' v H' ex p;obtain⟨_,p⟩:=p;cases p;exact hQ H'
end L3
namespace L4
open PySem PySem.W PyProof.Rows L2
noncomputable def GT (T:Addr):Option Value->Bool
 |some (.ref a)=>Nat.beq a T
 |_=>false
def kStr:Value->Bool
 |.str _ _=>true
 |_=>false
def kInt:Value->Bool
 |.int _ _=>true
 |_=>false
def kBl:Value->Bool
 |.bool _=>true
 |_=>false
def Ln (T:Addr):Option Obj->Bool
 |some ⟨.type n,_,.fields vs,_⟩=>n=="code" && GT T vs[11]? && GT T (some (vs.getD 11 .none)) && kStr (vs.getD 18 .none) && kInt (vs.getD 7 .none) && kBl (vs.getD 9 .none) && kInt (vs.getD 10 .none)
 |_=>false
noncomputable def tblB:Option Obj->Bool
 |some ⟨.none,none,.fields ⟨[]⟩,⟨[]⟩⟩=>true
 |_=>false
def tabB (K:Frag) (x:Str) (h:Heap):Bool:=match tabIn K x with
 |some (c,T)=>Ln T (h.get? c) && tblB (h.get? T) && !Nat.beq c T && (K.lookup T).isNone && !Nat.beq mainGlobals T
 |none=>false
def Io (A:Ask) (x:Str) (h:Heap):=(seen A h,tabB (frag A.at_ h) x h)
def claimT (A:Ask) (x:Str) (N:Nat) (p:Program) (w:World) (os:OsState):=KZ p (lawView A p) (looseOf p) (Io A x) N w os
def goalT (A:Ask) (p:Program):=some (true,openGood (lawView A p) (looseOf p),(good p A,true))
structure Tab (K:Frag) (x:Str) (h:Heap) (c T:Addr):Prop where
 tab:tabIn K x=some (c,T)
 hd:CodeHd h c T
 tb:h.get? T=some (tabObj #[])
 k:K.lookup T=none
 m:mainGlobals≠T
def YT (A:Ask) (p:Program) (x:Str) (h:Heap):Prop:=∃(K:Frag) (c T:Addr),K.In h/\seenK A K=good p A/\Tab K x h c T
def Lo {T:Addr} {v:Option Value} (h:GT T v=true):v=some (.ref T):=by
 unfold GT at h
 split at h
 .rw[Fz h]
 .cases h
def QZ {v:Value} (h:kStr v=true):∃a b,v=.str a b:=by cases v<;>first|exact⟨_,_,rfl⟩|cases h
def Lp {v:Value} (h:kInt v=true):∃a b,v=.int a b:=by cases v<;>first|exact⟨_,_,rfl⟩|cases h
def Ra {v:Value} (h:kBl v=true):∃a,v=.bool a:=by cases v<;>first|exact⟨_,rfl⟩|cases h
def Rb {K:Frag} {x:Str} {h:Heap} (e:tabB K x h=true):∃c T,Tab K x h c T:=by
 unfold tabB at e
 split at e
 .rename_i c T ht
  simp only[As,Bool.not_eq_true']at e;obtain⟨⟨⟨⟨e1,e2⟩,e3⟩,e4⟩,e5⟩:=e;have cT:c≠T:=fun z=>by subst z;rw[Nat.beq_refl]at e3;cases e3
  have mT:mainGlobals≠T:=fun z=>by rw[<-z,Nat.beq_refl]at e5;cases e5
  refine⟨c,T,ht,?_,?_,Option.isNone_iff_eq_none.mp e4,mT⟩
  .unfold Ln at e1
   split at e1
   .rename_i n od vs sl hc
    simp only[As]at e1;obtain⟨⟨⟨⟨⟨⟨a0,a1⟩,a2⟩,a3⟩,a4⟩,a5⟩,a6⟩:=e1;obtain⟨f1,f2,b3⟩:=QZ a3;obtain⟨g1,g2,b4⟩:=Lp a4;obtain⟨i1,b5⟩:=Ra a5;obtain⟨j1,j2,b6⟩:=Lp a6;have n0:n="code" :=Af.mp a0;subst n0;exact⟨_,vs,f1,f2,g1,g2,i1,j1,j2,hc,rfl,rfl,Lo a1,Option.some.inj (Lo a2),b3,b4,b5,b6,cT⟩
   .cases e1
  .unfold tblB at e2
   split at e2
   .rename_i hT;exact hT
   .cases e2
 .cases e
def seenT_ok {A:Ask} {p:Program} {x:Str} (w:World) (s:Shared) (e:Io A x s.heap=(good p A,true)):YT A p x s.heap:=by
 unfold Io at e;simp only[Dy]at e;obtain⟨c,T,t⟩:=Rb e.2;exact⟨_,c,T,Q7,e.1,t⟩
def seenT_keeps {A:Ask} {p:Program} {x:Str} (w:World) (h h':Heap) (y:YT A p x h) (k:∀b o,h.get? b=some o->h'.get? b=some o):YT A p x h':=by
 obtain⟨K,c,T,a,b,t⟩:=y;exact⟨K,c,T,a.keeps k,b,t.tab,L2.CodeHd.keeps t.hd k,k _ _ t.tb,t.k,t.m⟩
def walk_oneT {l:OpenLaw} {n k:Nat} {q:Program} {loose:List Str} {XP:(Str->Option Value)->Heap->Prop} {A:Ask} {d:DefRec} {CX:World->yZ} {sp:Frag->Addr->Sp} {x y:Str}
  (hn:l.most=some n) (hn2:n<=sizeLine) (hdf:d.params.defaults=[]) (hr:Room k callerA)
  (F:∀(w:World) (mg:Str->Option Value) (fa c T:Addr) (h:Heap) (K:Frag),K.In h->h.Ns mainGlobals mg->seenK A K=good l.prog A->tabIn K y=some (c,T)->mainGlobals≠T->mg d.name=some (.ref fa)->
   ∃fd:FuncData,(∀(s:Shared) (u:Value),BindsTo s fd ⟨[u],[]⟩ [(x,u)])/\∀base:Heap,K.In base->base.Ns mainGlobals mg->CodeHd base c T->base.BuiltinsAt mg T->FnOk l.prog w K mg base (CX w) k fa fd [x] (sp K T))
  (hsp:∀(K:Frag) (T:Addr) (H:Hp) (a:Addr) (ns:List Int),ns.length<=n->GS T H->SqL K H a (ns.map V.int)->sp K T [.ref a] H (fun v _=>v=.bl true) fun _ _ _=>False)
  (hCX:∀(w:World) (H:Hp) (s:Shared) (e:Value) (s':Shared),CX w [] H s (fun _ _ _=>False) e s'->False):
  WalkO q loose XP (fun _ h=>YT A l.prog y h) l.row.toRowW d [] (fun f vs=>PySem.call f vs):=by
 refine Att.attach_call hn hdf fun w s0 s1 mg mb fa o pm cd doc a vs ns G Y ho hd hcd hmg hobj hints hlen hg=>?_
 obtain⟨K,c,T,KX,S,t⟩:=Y;obtain⟨fd,hb,hF⟩:=F w mg fa c T _ K KX G.T.g S t.tab t.m hmg;have hba:s1.heap.BuiltinsAt mg T:=by
  obtain⟨bm,ob,e1,e2,e3,e4,e5,e6⟩:=G.T.bmain
  refine⟨bm,ob,e1,e2,fun z=>?_,fun z=>?_,e3,e4,e5,e6⟩
  .subst z
   obtain⟨o',es,ep,f1,f2,_⟩:=G.T.g;rw[e3]at f1;cases f1;rw[e6]at f2;cases f2
  .subst z
   rw[t.tb]at e3;cases e3;cases e6
 exact QY KX G.T.g G.T.b G.T.builtins G.T.nolimit hg hobj hints (Nat.le_trans hlen hn2) hr t.hd t.tb t.k hba hF hb (fun H hO hS=>hsp K T H a ns hlen hO hS) fun H e s'=>hCX w H s1 e s'
end L4
namespace L3
open PySem PySem.Spec PyProof.Rows L2
section
variable {X:Cx} {κ:Kx}
noncomputable def zX (mt:Str->Str->Option Bool):FB:=fun s h fs=>match fs with
 | [.x (.fn c _),.x (.cls B)]=>if c=("<fn>" :Str) then none else (mt c B).map fun b=>.v (.bl b)
 |_=>none
def IsOk (κ:Kx) (mt:Str->Str->Option Bool):Prop:=∀c B C Ba v,κ.cl c=some C->κ.cl B=some Ba->mt c B=some v->ExK κ.K C/\PySem.W.kitOne κ.K (.ref C) (.ref Ba)=some v
abbrev rIsE (κ:Kx):List V->Hp->VK->Prop:=fun xs H Q=> ∃a C dd c b,xs=[.ref a,.ref c]/\H a=some (zV a (.ref C) dd)/\ExK κ.K C/\PySem.W.kitOne κ.K (.ref C) (.ref c)=some b/\Q (.bl b) H
def qD {mt:Str->Str->Option Bool} (ok:IsOk κ mt):qr κ (rIsE κ) (zX mt):=fun F σ H fs z vs Q rel r e k=>by
 unfold zX at e
 split at e
 .rename_i c gs B
  obtain⟨v,w,rfl,rv,rw'⟩:=p2 r;have hfn: ¬c=("<fn>" :Str):=fun z=>by rw[Aa z]at e;cases e
  rw[Ab hfn]at e;cases q:mt c B with
  |none=>rw[q]at e;cases e
  |some b=>
   rw[q]at e;cases e;cases (show Rep κ F.β F.O H (.fn c gs) v from rv) with
   |clo _ _=>exact absurd rfl hfn
   |lam _ _ _=>exact absurd rfl hfn
   | @exc _ C a dd _ hc ha _ _ _=>
    cases (show Rep κ F.β F.O H (.cls B) w from rw') with
    | @cls _ Ba hb=>
     obtain⟨h1,h2⟩:=ok c B C Ba b hc hb q;exact⟨a,C,dd,Ba,b,rfl,ha,h1,h2,k _ H Ext.refl ⟨rel,.bl _⟩⟩
 .cases e
def qu (hK:X.K=κ.K):CallR X (.builtin "isinstance") (rIsE κ):=by
 intro pins s σ H xs us Q I r h;obtain⟨a,C,dd,c,b,rfl,ha,z,e,q⟩:=h;obtain⟨u,v,rfl,rx,ry⟩:=DQ r;cases rx;cases ry;rw[<-hK]at z e;exact JX z I ha e fun tk=>⟨.bl b,H,I.tok tk,rfl,q⟩
def Rc (hK:X.K=κ.K):CallR X (.type "tuple") (fun xs H Q=> ∃p ys,xs=[.ref p]/\SqL κ.K H p ys/\∀l,H l=none->Q (.ref l) (zh H l (.tup ys))):=by
 intro pins s σ H xs us Q I r h;obtain⟨p,ys,rfl,hq,q⟩:=h;obtain⟨u,rfl,rx⟩:=AH r;cases rx;rw[<-hK]at hq;obtain⟨its,rv,pl,hz⟩:=I.list hq;have hlen:=rv.length
 refine call_tuple_list pl.isList (fun h' hk=>?_) (by simp only[Al];lia)
 have I1:Inv X pins σ H {s with heap:=h'}:=I.kept (t':=s.toks) hk
 have hf:H h'.objs.size=none:=I1.hok.fresh (Nat.le_refl _);exact⟨.ref h'.objs.size,_,I1.laid (t':=s.toks) (fun b u e=>Ao _ e) (Nat.le_refl _) (show ObjOk X.prog X.w _ (h'.push _) _ (.tup ys) from ⟨hz,its,rv,⟨_,Bn _ rfl,rfl,_,rfl⟩⟩),rfl,q _ hf⟩
def EX:FB:=fun s h fs=>match fs with
 | [f]=>(rdl s h f).map fun xs=>.v (.tup xs)
 |_=>none
def Re:qr κ (fun xs H Q=> ∃p ys,xs=[.ref p]/\SqL κ.K H p ys/\∀l,H l=none->Q (.ref l) (zh H l (.tup ys))) EX:=fun F σ H fs z vs Q rel r e k=>by
 unfold EX at e
 split at e
 .rename_i f
  obtain⟨v,rfl,rv⟩:=p1 r;cases q1:rdl F.s F.h f with
  |none=>rw[q1]at e;cases e
  |some xs=>
   rw[q1]at e;cases e;obtain⟨a,ys,rfl,sq,rs⟩:=AK rel rv q1;exact⟨a,ys,rfl,sq,fun l hl=>k _ _ (yh hl) (Post.tup rel hl rs)⟩
 .cases e
noncomputable def zH (l:List (Str×Str×Bool)) (c B:Str):Option Bool:=match l with
 | []=>none
 | (x,y,v)::r=>if x=c/\y=B then some v else zH r c B
def MtL (κ:Kx) (l:List (Str×Str×Bool)):Prop:=∀c B v,zH l c B=some v->∃C Ba,κ.cl c=some C/\κ.cl B=some Ba/\PySem.W.exmOne κ.K (.ref C) (.ref Ba)=some v/\PySem.W.kitOne κ.K (.ref C) (.ref Ba)=some v/\ExK κ.K C
def MtL.ok {l:List (Str×Str×Bool)} {B:Str} {Ba:Addr} (h:MtL κ l) (hB:κ.cl B=some Ba):MtOk κ (zH l) B Ba:=fun c C v hc e=>by
 obtain⟨C',Ba',a,b,x,_⟩:=h c B v e;rw[hc]at a;rw[hB]at b;cases a;cases b;exact x
def MtL.is {l:List (Str×Str×Bool)} (h:MtL κ l):IsOk κ (zH l):=fun c B C Ba v hc hB e=>by
 obtain⟨C',Ba',a,b,_,x,z⟩:=h c B v e;rw[hc]at a;rw[hB]at b;cases a;cases b;exact⟨z,x⟩
end
def Tb (K:FG) (mg:Str->Option Value) (l:List (Str×Str×Bool)):Prop:=∀c B v,(c,B,v)∈l->∀C Ba,mg c=some (.ref C)->mg B=some (.ref Ba)->PySem.W.exmOne K (.ref C) (.ref Ba)=some v/\PySem.W.kitOne K (.ref C) (.ref Ba)=some v
def HG (mg:Str->Option Value) (l:List (Str×Addr)):Prop:=∀c C,(c,C)∈l->mg c=some (.ref C)
def HZ (K:FG) (mg:Str->Option Value) (l:List Str):Prop:=∀c∈l,∀C,mg c=some (.ref C)->ExK K C
section
variable {K:FG} {mg:Str->Option Value} {κ:Kx}
def HG.nil:HG mg []:=fun _ _ h=>by cases h
def HG.cons {c:Str} {C:Addr} {l:List (Str×Addr)} (h:mg c=some (.ref C)) (r:HG mg l):HG mg ((c,C)::l):=fun x y m=>by
 rcases Ag.mp m with z|z
 .cases z;exact h
 .exact r x y z
def HZ.nil:HZ K mg []:=fun _ h=>by cases h
def HZ.cons {c:Str} {C:Addr} {l:List Str} (h:mg c=some (.ref C)) (z:ExK K C) (r:HZ K mg l):HZ K mg (c::l):=fun x m D hD=>by
 rcases Ag.mp m with e|e
 .subst e;rw[h]at hD;cases hD;exact z
 .exact r x e D hD
theorem Lq {c B:Str} {v:Bool}:∀{l:List (Str×Str×Bool)},zH l c B=some v->(c,B,v)∈l
 | [],e=>by cases e
 | (x,y,u)::r,e=>by
  unfold zH at e
  by_cases q:x=c/\y=B
  .rw[Aa q]at e;obtain⟨rfl,rfl⟩:=q;cases e;exact Ax
  .rw[Ab q]at e;exact A1 _ (Lq e)
theorem Ip {c:Str} {C:Addr}:∀{l:List (Str×Addr)},l.lookup c=some C->(c,C)∈l
 | [],e=>by cases e
 | (x,y)::r,e=>by
  rw[Bq]at e;cases q:c==x with
  |true=>rw[q]at e;cases e;rw[Af.mp q];exact Ax
  |false=>rw[q]at e;exact A1 _ (Ip e)
def MtL.of {l:List (Str×Str×Bool)} {cs:List (Str×Addr)} {zs:List Str} (hK:κ.K=K) (hc:κ.cl=fun c=>cs.lookup c) (G:HG mg cs) (Z:HZ K mg zs) (tb:Tb K mg l) (ok:(l.all fun r=>zs.contains r.1 && ((cs.lookup r.1).isSome && (cs.lookup r.2.1).isSome))=true):MtL κ l:=fun c B v e=>by
 have m:=Lq e;have o:=Cm.mp ok _ m;simp only[As]at o;obtain⟨o1,o2,o3⟩:=o;obtain⟨C,hC⟩:=Ew.mp o2;obtain⟨D,hD⟩:=Ew.mp o3;have gC:=G c C (Ip hC);have gD:=G B D (Ip hD);obtain⟨h1,h2⟩:=tb c B v m C D gC gD;subst hK;exact⟨C,D,by rw[hc];exact hC,by rw[hc];exact hD,h1,h2,Z c (List.contains_iff_mem.mp o1) C gC⟩
end
end L3
namespace L4
open PySem PySem.W PyProof.Rows L2
def Lr {x:Str} {l:List (Str×Bool)} (h:(l.any fun e=>e.1==x)=true):∃(i:Nat) (b:Bool),l[i]? =some (x,b):=by
 obtain⟨e,m,q⟩:=List.any_eq_true.mp h;obtain⟨i,hi⟩:=Cw m;exact⟨i,e.2,by rw[hi,<-Af.mp q]⟩
def tab_all {A:Ask} {p:Program} {K:Frag} {mg:Str->Option Value} {h:Heap} (S:seenK A K=good p A) (X:K.In h) (G:h.Ns mainGlobals mg) (ok:(A.tab.all fun r=>(A.exc.any fun e=>e.1==r.1) && (A.exc.any fun e=>e.1==r.2.1))=true):L3.Tb K mg A.tab:=fun c B v m C Ba hC hB=>by
 have o:=Cm.mp ok _ m;simp only[As]at o;obtain⟨i,b,hi⟩:=Lr o.1;obtain⟨j,b',hj⟩:=Lr o.2;obtain⟨k,hk⟩:=Cw m;obtain⟨C',e1,_⟩:=exc_at S i hi;obtain⟨B',e2,_⟩:=exc_at S j hj;have g1:=mg_of X G e1;have g2:=mg_of X G e2;rw[hC]at g1;cases g1;rw[hB]at g2;cases g2;exact QB S k hk e1 e2
end L4
namespace L3
open PySem PySem.Spec PyProof.Rows L2
section
variable {X:Cx} {κ:Kx} {E:XK} {F F':Fr} {σ σ':L2.St} {H H1 H':Hp} {Q:VK} {p:Addr} {e a b c o:Expr} {es:List Expr} {pos apos np cpos:Pos} {i:Nat} {D:Ends}
noncomputable def CZ:FB:=fun _ _ fs=>match fs with
 | [.x (.int i)]=>if i.natAbs.log2<1920 then some (.v (.str (Str.ofString (toString i)))) else none
 | [.x (.str x)]=>some (.v (.str x))
 |_=>none
def Rg:CallR X (.type "str") (fun xs H Q=>(∃i:Int,xs=[.int i]/\i.natAbs.log2<1920/\Q (.str (toString i)) H)\/∃x,xs=[.str x]/\Q (.str x) H):=fun pins s σ H xs us Q I r h=>by
 rcases h with h|h
 .exact N5 pins s σ H xs us Q I r h
 .exact Qz pins s σ H xs us Q I r h
def Rh:qr κ (fun xs H Q=>(∃i:Int,xs=[.int i]/\i.natAbs.log2<1920/\Q (.str (toString i)) H)\/∃x,xs=[.str x]/\Q (.str x) H) CZ:=fun F σ H fs z vs Q rel r e k=>by
 unfold CZ at e
 split at e
 .rename_i i
  obtain⟨hl,rfl⟩:=ql e;obtain⟨v,rfl,rv⟩:=p1 r;cases (show Rep κ F.β F.O H (.int i) v from rv)
  exact .inl ⟨i,rfl,hl,k _ _ Ext.refl ⟨rel,.str _⟩⟩
 .rename_i x
  cases e;obtain⟨v,rfl,rv⟩:=p1 r;cases (show Rep κ F.β F.O H (.str x) v from rv)
  exact .inr ⟨x,rfl,k _ _ Ext.refl ⟨rel,.str _⟩⟩
 .cases e
end
end L3
namespace L2
open PySem PySem.Spec PyProof.Rows
noncomputable def fg (H:Hp) (a:Addr):Hp:=fun b=>if b=a then none else H b
def CF {H:Hp} {a b:Addr} (h:b≠a):fg H a b=H b:=by unfold fg;rw[Ab h]
def Iq {H:Hp} {a:Addr}:fg H a a=none:=by unfold fg;rw[Aa rfl]
def GU {H:Hp} {a b:Addr} (h:H b=none):fg H a b=none:=by unfold fg;split<;>first|rfl|exact h
section
variable {X:Cx} {pins:AL} {σ:St} {H:Hp} {s:Shared} {a C f:Addr} {φ:Heap->Prop}
def HOk.forget {P:Program} {w:World} {h:Heap} (x:HOk P w H h) (e:H a=some (.ext φ)):HOk P w (fg H a) h:=fun b u q=>by
 have hb:b≠a:=fun z=>by rw[z,Iq]at q;cases q
 rw[CF hb]at q;exact (x b u q).stay (fun c v _ r=>r) (fun c r=>by rw[CF (fun z=>by rw[z,e]at r;cases r)];exact r) fun c xs r=>by rw[CF (fun z=>by rw[z,e]at r;cases r)];exact r
theorem Inv.forget (I:Inv X pins σ H s) (e:H a=some (.ext φ)):Inv X pins σ (fg H a) s:=by
 refine⟨I.ok,I.os,I.bare,⟨I.base.keep,I.base.slot,fun b u q n hx=>GU (I.base.free b u q n hx),I.base.there,fun b xs q=>?_,fun b u v q=>?_,fun b ps q=>?_⟩,I.loc,I.cell,GU I.free,fun y c q=>GU (I.freeC y c q),fun p q=>?_,I.hok.forget e,I.len⟩
 .have r:=I.base.tups b xs q
  rw[CF (fun z=>by rw[z,e]at r;cases r)];exact r
 .have r:=I.base.frzs b u v q
  rw[CF (fun z=>by rw[z,e]at r;cases r)];exact r
 .obtain⟨more,r⟩:=I.base.tbls b ps q
  exact⟨more,by rw[CF (fun z=>by rw[z,e]at r;cases r)];exact r⟩
 .obtain⟨r1,r2,r3⟩:=I.pin p q
  exact⟨r1,GU r2,r3⟩
end
end L2
namespace L2
open PySem PySem.Spec PySem.W PyProof.Rows
section
variable {X:Cx} {C f:Addr} {fd:FuncData} {ps:List Str} {sp:Sp} {k:Nat} {x:Str} {np cpos pos:Pos} {e:Expr} {es:List Expr} {ta:TA}
def Ri (C:Addr) (ta:TA):TE:=fun σ H Q=>ta σ H fun vs H1=>vs.length<=1000/\∀a,H1 a=none->Q (.ref a) (zh H1 a (zV a (.ref C) none))
def Lu {P:Program} {w:World} {H:Hp} {h:Heap} {a:Addr} {cls:Value} {dd:Option Addr} (x:HI a cls dd h):ObjOk P w H h a (zV a cls dd):=
 ⟨x,let ⟨o,_,e,_⟩:=x;⟨o,e⟩,fun h1 h2 ⟨o,vs,e,r⟩ k=>⟨o,vs,k o e,r⟩⟩
def Rj (c:XCl X.K X.mg x C) (kp:keepIn X.K (.ref C)=true) (hg:Gl X x) (hex:X.ex=[]) (ha:PA X (e::es) ta)
  (hs:SE X e es:=by rfl) (hp:(backTo cpos (starEach es X.env)).any (·.1)=false:=by rfl) (hd:(x==("__debug__" :Str))=false:=by decide):
  PE X (.Call (.Name x np) (e::es) [] cpos) (Ri C ta):=by
 intro pins s σ H Q I h;obtain⟨tl,N,nm,q,bs,hdct,sn,sub,ab,col,dd,k0,k1,k2,k3,k5,mN,hC,hN,hni,T⟩:=(c.own I.ok.mod.kin).obj
 refine C1 (AG I hg c.gl ?_ hd)
 refine callWith_K (h₀:=X.base) I.ok.mod.kin kp (zn (ha cpos pins s σ H _ I h) fun us s1 ⟨vs,H1,I1,rv,hl,q1⟩=>⟨I1.kIn,?_⟩) hs hp
 obtain⟨hh,g,d,tk,os⟩:=s1
 refine wpAny_call_exc_subT D9 (T.keeps I1.bk) (I1.bk _ _ hC) (hN.keeps I1.bk) hni (fun h' a mk=>?_) (by show ([]++us).length<=sizeLine;rw[B4,<-rv.length];exact Cp (HD hl))
 obtain⟨t0,hx,_,_⟩:=mk.there;have na:H1 a=none:=I1.hok.untracked mk.new;have I':Inv X pins σ H1 {(⟨hh,g,d,tk,os⟩:Shared) with heap:=h'}:=I1.kept (t':=tk) mk.keeps
 have nn:∀b o,hh.get? b=some o->b≠a:=fun b o q z=>by
  have w:hh.get? a=none:=mk.new;rw[z,w]at q;cases q
 have old:X.s₀.heap.get? a=none:=by
  cases z:X.s₀.heap.get? a with
  |none=>rfl
  |some o=>
   obtain⟨o',q'⟩:=I1.base.there a o z (by rw[hex];exact fun y=>nomatch y)
   exact absurd rfl (nn a o' q')
 have I2:=I'.track (o:=zV a (.ref C) none) na old (by
  obtain⟨m,hm,_⟩:=I1.loc;obtain⟨o,ho⟩:∃o,hh.get? X.env.locals=some o:=let ⟨o,_,_,ho,_⟩:=hm;⟨o,ho⟩;exact (nn _ o ho).symm) (fun y c q=>by
  obtain⟨v,hv⟩:=I1.cell y c q;obtain⟨o,ho⟩:∃o,hh.get? c=some o:=let ⟨o,ho,_⟩:=hv;⟨o,ho⟩;exact nn _ o ho) (fun p q=>nn _ _ (I1.pin p q).1) (Lu ⟨_,_,hx,rfl,rfl,rfl⟩)
 exact⟨.ref a,_,I2,rfl,q1 a na⟩
end
end L2
namespace L3
open PySem PySem.Spec PyProof.Rows L2
section
variable {X:Cx} {κ:Kx} {E:XK} {F:Fr} {σ:L2.St} {H:Hp} {Q:VK} {e:Expr} {es:List Expr} {np cpos:Pos}
def eXc (c:Str) (t:A3):E3:=fun s h=>(t s h).bind fun fs h1=>if fs.length<=1000 then .ok (.v (.fn c [])) h1 else .no
def r_xc {c x:Str} {C:Addr} {t:A3} (hk:κ.cl c=some C) (xc:XCl X.K X.mg x C) (kp:PySem.W.keepIn X.K (.ref C)=true) (hg:Gl X x) (hex:X.ex=[]) (ha:PA X (e::es) (zG κ E t)) (hs:SE X e es:=by rfl) (hpl:(backTo cpos (starEach es X.env)).any (·.1)=false:=by rfl)
  (hd:(x==("__debug__" :Str))=false:=by decide):PE X (.Call (.Name x np) (e::es) [] cpos) (zi κ E (eXc c t)):=
 yu (Rj xc kp hg hex ha hs hpl hd) fun σ H Q ⟨F,rel,o⟩=>(z7 (K:=kA κ) zM rel o).mono fun vs H1 ⟨β1,h1,fs,e1,⟨r1,rf⟩,o1⟩=>by
  by_cases hl:fs.length<=1000
  .rw[Aa hl]at o1
   refine⟨by rw[<-rf.length];exact hl,fun a ha=>?_⟩
   have e2:Ext No β1 H1 β1 (zh H1 a (zV a (.ref C) none)):=yh ha;have nb:some a∉β1:=fun z=>by
    obtain⟨j,hj⟩:=Cw z;obtain⟨u,hu,_⟩:=r1.heap.btr j a hj;rw[ha]at hu;cases hu
   have no: ¬F.O a:=fun z=>by
    obtain⟨u,hu,_⟩:=r1.heap.trk a z;rw[ha]at hu;cases hu
   have r2:Rel κ (F.to β1 h1) σ (zh H1 a (zV a (.ref C) none)):=r1.laid ha;exact o1 β1 (.ref a) _ e2 ⟨r2,.exc hk zF nb no rfl⟩
  .rw[Ab hl]at o1;exact o1.elim
end
end L3
namespace L2
open PySem PySem.Spec PyProof.Rows
section
variable {X:Cx} {a b:Expr} {pos:Pos} {ta tb:TE}
def tF2 (ta tb:TE):TE:=fun σ H Q=>ta σ H fun x H1=> ∃i,x=.str i/\i.length<=10000/\tb σ H1 fun y H2=> ∃j,y=.str j/\j.length<=10000/\Q (.str (i++j)) H2
def Ir (ha:PE X a ta) (hb:PE X b tb):PE X (.JoinedStr [a,b] pos) (tF2 ta tb):=by
 intro pins s σ H Q I h;have sz:40000<=sizeLine:=by decide
 refine wpAny_JoinedStr ?_
 refine A7 (ha pins s σ H _ I h) (fun v s1 ⟨x,H1,I1,r1,i,ei,li,q1⟩=>?_) fun _ _ e=>e
 subst ei;obtain⟨t1,rfl⟩:=r1;have e0:Str.empty++i=i:=Str.empty_append i
 refine⟨i,t1,rfl,by rw[e0];lia,?_⟩
 rw[e0]
 refine A7 (hb pins s1 σ H1 _ I1 q1) (fun v s2 ⟨x,H2,I2,r2,j,ej,lj,q2⟩=>?_) fun _ _ e=>e
 subst ej;obtain⟨t2,rfl⟩:=r2
 refine⟨j,t2,rfl,by rw[Dm];lia,?_⟩
 exact⟨by rw[Dm];lia,.str _,H2,I2.tok _,⟨_,rfl⟩,q2⟩
end
def CG (C:Addr):Sp:=fun vs H Q _=> ∃a z,vs=[.ref a,.str z]/\z.length<=10000/\H a=some (yg a (.ref C) none)/\∀d,H d=none->Q .non (zh (zh H a (yg a (.ref C) (some d))) d (.xd [(("name" :Str),V.str z)]))
def Iu {P:Program} {w:World} {K:FG} {mg:Str->Option Value} {base:Heap} {x qual:Str} {st:Stmt} {f C:Addr} {fd:FuncData} {k:Nat} {w0:Str} (c:XI K C f) (Fn:Fun K x qual st f fd) (S:FnScope ["self","name"] ["self","name"] (zC st)) (hw:w0.length<=10000)
  (hb:∀(cdv:Value) (A:Around) (outer:List Env) (s:Shared) (H:Hp) (E:XK),Room k (A.deeper (envOfC qual (zC st) s.heap.objs.size f cdv))->
   yk (yf (XT P w) P w K mg base ["self","name"] qual (zC st) f cdv A outer s H E) (qH st) (tSeq (Hy (Ih K (DR (yn 0) (DR (tF2 (tC (.str w0)) (tFmt (yn 1))) tNil)))) (Ii K (yn 0) (yn 1)))):
  FnOk P w K mg base (XT P w) (k+1) f fd ["self","name"] (CG C):=by
 refine Fn.okX S (fun vs H Q E h=>?_) fun cdv A outer s H vs Q E hr h=>⟨_,hb cdv A outer s H E hr,?_⟩
 .obtain⟨_,_,rfl,_⟩:=h;rfl
 .obtain⟨a,z,rfl,hz,ea,q⟩:=h
  have s0:(start ["self","name"] [V.ref a,V.str z])[0]? =some (some (V.ref a)):=rfl;have s1:(start ["self","name"] [V.ref a,V.str z])[1]? =some (some (V.str z)):=rfl
  refine⟨_,s0,w0,rfl,hw,.str z,s1,.inr ⟨z,rfl,by lia,z,rfl,hz,a,C,none,_,rfl,ea,c.it,c.sv,?_⟩⟩
  refine⟨.str z,s1,.ref a,s0,a,C,z,rfl,rfl,zF,c.toExN,fun d hd=>?_⟩
  rw[Hw];exact q d (by rw[<-hd,zj (fun y=>by rw[y,zF]at hd;cases hd)])
end L2
namespace L3
open PySem PySem.Spec PyProof.Rows L2
section
variable {X:Cx} {κ:Kx} {E:XK} {F F1 F2 F':Fr} {σ σ':L2.St} {H H1 H2 H':Hp} {Q:VK} {p:Addr} {e a b o:Expr} {es:List Expr} {pos apos np cpos hp:Pos} {i:Nat} {D:Ends}
def Rk {H:Hp} {a d:Addr} {u v:HO} (ha:H a=none) (hd:d≠a):fg (zh (zh H a u) d v) a=zh H d v:=by
 funext b
 by_cases hb:b=a
 .subst hb;rw[Iq,zj (Av hd)];exact ha.symm
 .rw[CF hb]
  by_cases hb2:b=d
  .subst hb2;rw[zF,zF]
  .rw[zj hb2,zj hb,zj hb2]
end
end L3
namespace L2
open PySem PySem.Spec PySem.W PyProof.Rows
section
variable {X:Cx} {C f:Addr} {fd:FuncData} {ps:List Str} {sp:Sp} {k:Nat} {x:Str} {np cpos pos:Pos} {e:Expr} {es:List Expr} {ta:TA}
def Rl (C:Addr) (sp:Sp) (ta:TA):TE:=fun σ H Q=>ta σ H fun vs H1=>vs.length<=1000/\∀a,H1 a=none->sp (.ref a::vs) (zh H1 a (yg a (.ref C) none)) (fun v H2=>v=.non/\∃dd,H2 a=some (yg a (.ref C) dd)/\Q (.ref a) (zh (fg H2 a) a (zV a (.ref C) dd))) (fun _ _ _=>False)
def Rm (c:XI X.K C f) (hg:Gl X x) (hm:X.mg x=some (.ref C)) (F:FnOk X.prog X.w X.K X.mg X.base (XT X.prog X.w) k f fd ps sp) (hr:Room (k+1) X.A) (hb:Binds X.K fd ps []) (ha:PA X (e::es) ta)
  (hs:SE X e es:=by rfl) (hp:(backTo cpos (starEach es X.env)).any (·.1)=false:=by rfl) (hd:(x==("__debug__" :Str))=false:=by decide):
  PE X (.Call (.Name x np) (e::es) [] cpos) (Rl C sp ta):=by
 intro pins s σ H Q I h;obtain⟨nm,q,N,bs,bm,hdct,sn,sub,ab,col,dd,k0,k1,k2,k3,k5,hC,T⟩:=c.own I.ok.mod.kin
 refine C1 (AG I hg hm ?_ hd)
 refine Et (h₀:=X.base) I.ok.mod.kin c.kp (zn (ha cpos pins s σ H _ I h) fun us s1 ⟨vs,H1,I1,rv,hl,q1⟩=>⟨I1.kIn,?_⟩) hs hp
 obtain⟨hh,g,d,tk,os⟩:=s1
 refine Q4 c I1.kIn (T.keeps I1.bk) (I1.bk _ _ hC) (fun h' a ge mk=>?_) (by show ([]++us).length<=sizeLine;rw[B4,<-rv.length];exact Cp (HD hl))
 obtain⟨t0,hx,_,_⟩:=mk.there;have na:H1 a=none:=I1.hok.untracked mk.new;have I2:=I1.laid (a:=a) (o:=yg a (.ref C) none) (h':=h') (t':=tk) mk.keeps ge (Ig ⟨_,_,t0,hx,rfl,rfl,rfl,rfl,rfl⟩);have hq:=q1 a na;have r2:Vals (V.ref a::vs) (Value.ref a::us):= .cons rfl rv;have hl2:(Value.ref a::us++([]:List Value)).length=ps.length:=by
  have e:=r2.length;rw[F.len _ _ _ _ hq]at e;rw[Bo];exact e.symm
 have old:X.s₀.heap.get? a=none:=by
  cases z:X.s₀.heap.get? a with
  |none=>rfl
  |some o=>exact absurd (Az (Aj z) (Nat.le_trans I1.sz ge)) (B6 _)
 refine Dc (Dd (F.run _ X.stack _ _ ⟨Value.ref a::us,[]⟩ (Value.ref a::us) _ _ _ (hr.make C us []) (I2.env0.make C us []) (by have:=hb _ (Value.ref a::us) I2.kIn hl2;rw[Bo]at this;exact this) r2 hq) fun r s' hq'=>?_)
 cases r with
 |error e=>
  obtain⟨_,_,_,_,_,_,_,_,_,_,_,_,_,_,_,_,z⟩:=hq';exact z.elim
 |ok fl=>
  cases fl with
  |ret u=>
   obtain⟨v,H',I3,rv,ev,dx,ea,q3⟩:=I2.after hq';subst ev;obtain⟨⟨o,ws,t1,ho,hoc,hod,hodd,h0,h1⟩,_⟩:=(show ObjOk X.prog X.w H' s'.heap a (yg a (.ref C) dx) from I3.hok a _ ea)
   have ne:∀b,H' b=none->b≠a:=fun b q z=>by rw[z,ea]at q;cases q
   have I4:=(I3.forget ea).track (o:=zV a (.ref C) dx) Iq old (ne _ I3.free).symm (fun y c q=>ne _ (I3.freeC y c q)) (fun p q=>ne _ (I3.pin p q).2.1) (Lu ⟨o,ws,ho,hoc,hod,hodd⟩)
   exact⟨rv,.ref a,_,I4,rfl,q3⟩
  |next=>exact False.elim hq'
  |brk=>exact False.elim hq'
  |cont=>exact False.elim hq'
end
end L2
namespace L3
open PySem PySem.Spec PyProof.Rows L2
section
variable {X:Cx} {κ:Kx} {E:XK} {F:Fr} {σ:L2.St} {H:Hp} {Q:VK} {e:Expr} {es:List Expr} {np cpos:Pos}
def eXcN (c:Str) (t:A3):E3:=fun s h=>(t s h).bind fun fs h1=>match fs with
 | [.x (.str z)]=>if z.length<=10000 then .ok (.v (.fn c [.str z])) h1 else .no
 |_=>.no
def GV {c x:Str} {C f:Addr} {fd:FuncData} {k:Nat} {t:A3} (hk:κ.cl c=some C) (xi:XI X.K C f) (hg:Gl X x) (hm:X.mg x=some (.ref C)) (Fk:FnOk X.prog X.w X.K X.mg X.base (XT X.prog X.w) k f fd ["self","name"] (CG C)) (hr:Room (k+1) X.A) (hb:Binds X.K fd ["self","name"] []) (ha:PA X (e::es) (zG κ E t))
  (hs:SE X e es:=by rfl) (hpl:(backTo cpos (starEach es X.env)).any (·.1)=false:=by rfl)
  (hd:(x==("__debug__" :Str))=false:=by decide):PE X (.Call (.Name x np) (e::es) [] cpos) (zi κ E (eXcN c t)):=
 yu (Rm xi hg hm Fk hr hb ha hs hpl hd) fun σ H Q ⟨F,rel,o⟩=>(z7 (K:=kA κ) zM rel o).mono fun vs H1 ⟨β1,h1,fs,e1,⟨r1,rf⟩,o1⟩=>by
  match fs,rf,o1 with
  | [.x (.str z)],rf,o1=>
   obtain⟨v,rfl,rv⟩:=p1 rf;cases (show Rep κ β1 F.O H1 (.str z) v from rv)
   by_cases hl:z.length<=10000
   .simp only[Aa hl]at o1
    refine⟨by show 1<=1000;decide,fun a ha=>⟨a,z,rfl,hl,zF,fun d hd=>⟨rfl,some d,?_,?_⟩⟩⟩
    all_goals have nda:d≠a:=fun y=>by rw[y,zF]at hd;cases hd
    all_goals rw[zj nda]at hd
    .rw[zj (Av nda),zF]
    .rw[Hw,Rk ha nda]
     have r2:Rel κ (F.to β1 h1) σ (zh H1 d (.xd [(("name" :Str),V.str z)])):=r1.laid hd;have ha2:zh H1 d (.xd [(("name" :Str),V.str z)]) a=none:=by rw[zj (Av nda)];exact ha
     have r3:Rel κ (F.to β1 h1) σ (zh (zh H1 d (.xd [(("name" :Str),V.str z)])) a (zV a (.ref C) (some d))):=r2.laid ha2;have nb:∀b,H1 b=none->some b∉β1:=fun b hb y=>by
      obtain⟨j,hj⟩:=Cw y;obtain⟨u,hu,_⟩:=r1.heap.btr j b hj;rw[hb]at hu;cases hu
     have no:∀b,H1 b=none->¬F.O b:=fun b hb y=>by
      obtain⟨u,hu,_⟩:=r1.heap.trk b y;rw[hb]at hu;cases hu
     exact o1 β1 (.ref a) _ ((yh hd).trans0 (yh ha2)) ⟨r3,.exc hk zF (nb a ha) (no a ha) ⟨z,rfl,by rw[zj nda,zF],nb d hd,no d hd⟩⟩
   .simp only[Ab hl]at o1;exact o1.elim
end
section
variable {X:Cx} {κ:Kx} {E:XK} {e:Expr} {pos:Pos}
def eXm (cs:List Str) (d:P3):E3:=fun s h=>(d s h).bind fun f h1=>match f with
 |.x (.fn c [.str z])=>if c∈cs/\c≠("<fn>" :Str) then .ok (.v (.str z)) h1 else .no
 |_=>.no
def r_xm {cs:List Str} {d:P3} (xi:∀c∈cs,∀C,κ.cl c=some C->ExN X.K C) (he:PE X e (zt κ E d)) (hb:attributeBase e "name" X.env (eval e X.env)=eval e X.env:=by rfl):PE X (.Attribute e "name" pos) (zi κ E (eXm cs d)):=
 yu (Q2 he hb) fun σ H Q ⟨F,rel,o⟩=>(z7 (K:=kP κ) zM rel o).mono fun v H1 ⟨β1,h1,f,e1,⟨r1,rf⟩,o1⟩=>by
  match f,rf,o1 with
  |.x (.fn c [.str z]),rf,o1=>
   by_cases hc:c∈cs/\c≠("<fn>" :Str)
   .simp only[Aa hc]at o1
    cases (show Rep κ β1 F.O H1 (.fn c [.str z]) v from rf) with
    | @exc _ C' a dd _ hC ha nb no xd=>
     cases dd with
     |none=>cases xd
     |some d=>
      obtain⟨z',ez,hd,_,_⟩:=xd;cases ez;exact⟨a,C',d,z,rfl,ha,hd,xi c hc.1 C' hC,o1 β1 _ H1 Ext.refl ⟨r1,.str _⟩⟩
    |_=>exact absurd rfl hc.2
   .simp only[Ab hc]at o1;exact o1.elim
end
end L3
namespace L2
open PySem PySem.Spec PyProof.Rows
def Rn {P:Program} {w:World} {K:FG} {mg:Str->Option Value} {base:Heap} {x qual:Str} {st:Stmt} {f C:Addr} {fd:FuncData} {k:Nat} {w0 w2:Str} (c:XI K C f) (Fn:Fun K x qual st f fd) (S:FnScope ["self","name"] ["self","name"] (zC st)) (hw:w0.length<=10000) (hw2:w2.length<=10000)
  (hb:∀(cdv:Value) (A:Around) (outer:List Env) (s:Shared) (H:Hp) (E:XK),Room k (A.deeper (envOfC qual (zC st) s.heap.objs.size f cdv))->
   yk (yf (XT P w) P w K mg base ["self","name"] qual (zC st) f cdv A outer s H E) (qH st) (tSeq (Hy (Ih K (DR (yn 0) (DR (tF3 (tC (.str w0)) (tFmt (yn 1)) (tC (.str w2))) tNil)))) (Ii K (yn 0) (yn 1)))):
  FnOk P w K mg base (XT P w) (k+1) f fd ["self","name"] (CG C):=by
 refine Fn.okX S (fun vs H Q E h=>?_) fun cdv A outer s H vs Q E hr h=>⟨_,hb cdv A outer s H E hr,?_⟩
 .obtain⟨_,_,rfl,_⟩:=h;rfl
 .obtain⟨a,z,rfl,hz,ea,q⟩:=h
  have s0:(start ["self","name"] [V.ref a,V.str z])[0]? =some (some (V.ref a)):=rfl;have s1:(start ["self","name"] [V.ref a,V.str z])[1]? =some (some (V.str z)):=rfl
  refine⟨_,s0,w0,rfl,hw,.str z,s1,.inr ⟨z,rfl,by lia,z,rfl,hz,w2,rfl,hw2,a,C,none,_,rfl,ea,c.it,c.sv,?_⟩⟩
  refine⟨.str z,s1,.ref a,s0,a,C,z,rfl,rfl,zF,c.toExN,fun d hd=>?_⟩
  rw[Hw];exact q d (by rw[<-hd,zj (fun y=>by rw[y,zF]at hd;cases hd)])
end L2
namespace L3
open PySem PySem.Spec PyProof.Rows L2
section
variable {X:Cx} {κ:Kx}
def Ro {K:FG} {C:Addr} (z:ExK K C):PySem.W.kitOne K (.ref C) (.type "ValueError")=some true:=by
 unfold PySem.W.kitOne PySem.W.kitCls;have e1:(Value.ref C==Value.type "ValueError")=false:=rfl;have e2:PySem.W.kitMeta "ValueError" =true:=by decide+kernel
 simp only[e1,e2,Cb,z.sw];rfl
noncomputable def bIsV (mt:Str->Str->Option Bool):FB:=fun s h fs=>match fs with
 | [.x (.fn c _),.x (.ty "ValueError")]=>if c=("<fn>" :Str) then none else (mt c c).map fun _=>.v (.bl true)
 |_=>none
abbrev rIsV (κ:Kx):List V->Hp->VK->Prop:=fun xs H Q=> ∃a C dd,xs=[.ref a,.ty "ValueError"]/\H a=some (zV a (.ref C) dd)/\ExK κ.K C/\Q (.bl true) H
def Rp {mt:Str->Str->Option Bool} (ok:IsOk κ mt):qr κ (rIsV κ) (bIsV mt):=fun F σ H fs z vs Q rel r e k=>by
 unfold bIsV at e
 split at e
 .rename_i c gs
  obtain⟨v,w,rfl,rv,rw'⟩:=p2 r;have hfn: ¬c=("<fn>" :Str):=fun z=>by rw[Aa z]at e;cases e
  rw[Ab hfn]at e;cases q:mt c c with
  |none=>rw[q]at e;cases e
  |some b=>
   rw[q]at e;cases e;cases (show Rep κ F.β F.O H (.fn c gs) v from rv) with
   |clo _ _=>exact absurd rfl hfn
   |lam _ _ _=>exact absurd rfl hfn
   | @exc _ C a dd _ hc ha _ _ _=>
    cases (show Rep κ F.β F.O H (.ty "ValueError") w from rw')
    obtain⟨h1,_⟩:=ok c c C C b hc hc q;exact⟨a,C,dd,rfl,ha,h1,k _ H Ext.refl ⟨rel,.bl _⟩⟩
 .cases e
def Rq (hK:X.K=κ.K):CallR X (.builtin "isinstance") (rIsV κ):=by
 intro pins s σ H xs us Q I r h;obtain⟨a,C,dd,rfl,ha,z,q⟩:=h;obtain⟨u,v,rfl,rx,ry⟩:=DQ r;cases rx;cases ry;rw[<-hK]at z;exact JX z I ha (Ro z) fun tk=>⟨.bl true,H,I.tok tk,rfl,q⟩
end
section
variable {κ:Kx}
def Lv:Expr->Bool
 |.Starred _ _=>true
 |_=>false
def Rr {e:Expr} {es:List Expr} {env:Env} (h:Lv e=false):starEach (e::es) env=(false,eval e env)::starEach es env:=by
 cases e<;>first|rfl|(cases h;done)
def zL {X:Cx} {E:XK} {e:Expr} {es:List Expr} {d:P3} {t:A3} (ha:PE X e (zt κ E d)) (hr:PA X es (zG κ E t)) (h:Lv e=false:=by rfl):PA X (e::es) (zG κ E (aCons d t)):=zc ha hr (Rr h)
end
end L3
namespace L2
open PySem PySem.Spec PyProof.Rows
section
variable {X:Cx}
def Rt (P:Addr) (q:Str) (pos:Pos) (mk:Addr->Value->Obj):TE:=fun σ H Q=>H P=some (.tbl #[])/\∀f c ctv,H f=none->H c=none->f≠c->f≠P->c≠P->Q (.ref f) (defH H P c f (#[]++ #[PySem.rawInt pos.line,PySem.rawInt pos.col,.ref c]) q (mk c ctv))
def Ru {P c:Addr} {params:Arguments} {body:Expr} {scope:Scope} {pos:Pos} {clos:List (Str×Addr)} (hcl:closureFor scope X.env=pure clos) (hcd:X.env.code=.ref c) (hC:PySem.W.CodeHd X.base c P) (hB:X.base.BuiltinsAt X.mg P) (hm:mainGlobals≠P) (hdf:defaultsOf params X.env=([],[])):
  PE X (.Lambda params body scope pos) (Rt P (X.env.qual++"<lambda>") pos fun c' ctv=>PySem.W.kla_obj "<lambda>" (X.env.qual++"<lambda>") params body scope clos ((X.mg "__name__").getD .none) c' ctv):=by
 intro pins s σ H Q I ⟨hP,h⟩
 refine PySem.W.kla_eval hdf ?_
 have hb:=I.bk
 refine PySem.W.kla_makeFunction (c:=c) (P:=P) (ps:= #[]) (mg:=X.mg) hcl I.ok.glob (I.mod.glob.keeps hb) hcd (CodeHd.keeps hC hb) (show s.heap.get? P=_ from I.hok P _ hP) trivial rfl hm (BuiltinsAt.keeps hB hb) fun c' ctv h' tk ex hc hlt hcr ht=>?_
 obtain⟨I2,nf,nc,fc,fP,cP⟩:=QG (o:=PySem.W.kla_obj "<lambda>" (X.env.qual++"<lambda>") params body scope clos ((X.mg "__name__").getD .none) c' ctv) (tk:=tk) I hP ex hc hlt hcr ht rfl rfl;exact⟨.ref h'.objs.size,_,I2,rfl,h _ c' ctv nf nc fc fP cP⟩
def Rw (P:Addr) (pos:Pos) (mk:Addr->Value->Obj):TE:=fun σ H Q=> ∃c,H P=some (.tbl (#[]++ #[rawInt pos.line,rawInt pos.col,.ref c]))/\∀f ctv,H f=none->Q (.ref f) (zh H f (yK f (mk c ctv)))
def Rx {P c:Addr} {params:Arguments} {body:Expr} {scope:Scope} {pos:Pos} {clos:List (Str×Addr)} (hcl:closureFor scope X.env=pure clos) (hcd:X.env.code=.ref c) (hC:PySem.W.CodeHd X.base c P) (hB:X.base.BuiltinsAt X.mg P) (hdf:defaultsOf params X.env=([],[]))
  (ht:∀c':Addr,TriplesOk (#[]++ #[rawInt pos.line,rawInt pos.col,Value.ref c']).toList) (hf:∀c':Addr,codeAmong pos (#[]++ #[rawInt pos.line,rawInt pos.col,Value.ref c']).toList=some (Value.ref c')):
  PE X (.Lambda params body scope pos) (Rw P pos fun c' ctv=>PySem.W.kla_obj "<lambda>" (X.env.qual++"<lambda>") params body scope clos ((X.mg "__name__").getD .none) c' ctv):=by
 intro pins s σ H Q I ⟨c',hP,h⟩
 refine PySem.W.kla_eval hdf ?_
 have hb:=I.bk
 refine PySem.W.kla_makeFunctionHit (c:=c) (P:=P) (mg:=X.mg) hcl I.ok.glob (I.mod.glob.keeps hb) hcd (CodeHd.keeps hC hb) (show s.heap.get? P=_ from I.hok P _ hP) (ht c') (hf c') (BuiltinsAt.keeps hB hb) fun ctv h' tk kp sz=>?_
 have nf:H h'.objs.size=none:=I.hok.fresh sz;have I2:=I.laid (a:=h'.objs.size) (o:=yK h'.objs.size (PySem.W.kla_obj "<lambda>" (X.env.qual++"<lambda>") params body scope clos ((X.mg "__name__").getD .none) c' ctv)) (t':=tk) (fun b o e=>Ao _ (kp b o e)) sz (Lj (Bn h' rfl))
 exact⟨.ref h'.objs.size,_,I2,rfl,h _ ctv nf⟩
end
def Lw (f c:Addr) (o:Obj) (q:Str) (sp:Sp):Sp:=fun vs H Q E=>H f=some (yK f o)/\H c=some (yU c q)/\sp vs H Q E
def Ry {CX:yZ} {P:Program} {w:World} {K:FG} {mg:Str->Option Value} {base:Heap} {k:Nat} {f c':Addr} {name qual:Str} {params:Arguments} {body:Expr} {scope:Scope} {cl:List (Str×Addr)} {pm ctv:Value}
  {N ps:List Str} {sp:Sp} (S:CloScope N ps [] scope) (hc:Held base cl [] [])
  (len:∀vs H Q E,sp vs H Q E->vs.length=ps.length)
  (hbody:∀(A:Around) (outer:List Env) (s:Shared) (H:Hp) (vs:List V) (Q:VK) (E:XK),Room k (A.deeper (PySem.W.envX qual scope s.heap.objs.size f (.ref c') cl))->sp vs H Q E->
   ∃t,PE (cxC CX P w K mg base N qual scope f (.ref c') cl A outer s H E) body t/\t (start N (vs++[])) H Q):
  FnOk P w K mg base CX (k+1) f (PySem.W.kla_fn name qual params body scope cl pm (.ref c') ctv) ps (Lw f c' (PySem.W.kla_obj name qual params body scope cl pm c' ctv) qual sp):=by
 refine⟨fun vs H Q E h=>len vs H Q E h.2.2,fun A outer s H args us vs Q E hr e0 hb r ⟨hF,hCd,hsp⟩=>?_⟩
 have hl:=len _ _ _ _ hsp;have hu:us.length=ps.length:=by rw[<-r.length];exact hl
 have kp:∀b o,base.get? b=some o->s.heap.get? b=some o:=fun b o e=>(e0.bs b o e).1
 have lim:s.heap.NoLimit:=e0.mod.nolimit.keeps kp;have lk:s.heap.get? f=some (PySem.W.kla_obj name qual params body scope cl pm c' ctv):=(e0.hok f _ hF).1;have cr:s.heap.CodeRec (.ref c') qual:=(e0.hok c' _ hCd).1
 refine PySem.W.kla_callFunE hr.depth lk rfl S.co S.gen rfl cr (hb _ _ _ _ ?_)
 refine wpAny_newFunctionEnv S.nocell (fun y hy=>S.par _ (Eu (a:=y.1) (b:=y.2) hy).1) (fun h1 hns hsame=>?_) S.kind
 have hk:∀b o,s.heap.get? b=some o->h1.get? b=some o:=fun b o e=>by
  rw[hsame.2 b (Au (Aj e))];exact Ao _ e
 refine⟨lim.keeps hk,PySem.W.kla_codeExpr ?_⟩
 obtain⟨t,ht,hq⟩:=hbody A outer s H vs Q E (hr.deeper _) hsp;have I:Inv (cxC CX P w K mg base N qual scope f (.ref c') cl A outer s H E) [] (start N (vs++[])) H {s with heap:=h1,toks:=s.toks+(ps.zip us).length}:=QE S hr.hd e0 hl rfl r hc hns hk
 refine A7 (ht [] _ (start N (vs++[])) H _ I hq) (fun u s' hs=>?_) fun e s' hs=>hs
 obtain⟨v,H',J,rv,q⟩:=hs;exact⟨v,H',J.os,J.bare,J.base,J.hok,rv,q⟩
section
variable {X:Cx} {CX:yZ} {E:XK} {i k:Nat} {x:Str} {p pos:Pos} {e:Expr} {es:List Expr} {t:TA} {ps:List Str}
def Rz {W:Addr->Obj->FuncData->Sp->Prop} (F:∀f ob fd sp,W f ob fd sp->ob.data=.func fd/\FnOk X.prog X.w X.K X.mg X.base CX k f fd ps sp/\∀(s:Shared) (us:List Value),us.length=ps.length->BindsTo s fd ⟨us,[]⟩ (ps.zip us)) (hr:Room k X.A) (hN:X.N[i]? =some x) (hv:Vis X.env.scope x) (hx:AB CX X E)
  (ha:PA X (e::es) t) (hd:(x==("__debug__" :Str))=false:=by decide) (hcd:(x==("__classdict__" :Str))=false:=by decide) (he:SE X e es:=by rfl) (hpl:BA X pos es:=by rfl):
  PE X (.Call (.Name x p) (e::es) [] pos) (fun σ H Q=> ∃f ob fd sp,W f ob fd sp/\σ[i]? =some (some (.ref f))/\H f=some (yK f ob)/\t σ H fun vs H1=>H1 f=some (yK f ob)/\sp vs H1 Q E):=by
 intro pins s σ H Q I ⟨f,ob,fd,sp,hW,hσ,hF,h⟩;obtain⟨hfd,Fk,hb⟩:=F f ob fd sp hW;have at_:∀{s:Shared} {H:Hp},Inv X pins σ H s->H f=some (yK f ob)->PySem.W.FnAt f s.heap:=fun I hF=>by
  have:=(I.hok f _ hF).1;obtain⟨oc,od,da,sl⟩:=ob;have hfd:da=_:=hfd;subst hfd;exact⟨oc,od,fd,sl,this⟩
 refine C1 (zn (yS hN hv hd hcd pins s σ H (fun v H'=>v=.ref f/\H'=H) I ⟨_,hσ,rfl,rfl⟩) fun u s0 ⟨v,H0,I0,rv,e1,e2⟩=>?_)
 subst e1;subst e2;obtain rfl:u=.ref f:=rv
 refine PySem.W.callWith_F (at_ I0 hF) (zn (ha pos pins s0 σ H0 _ I0 h) fun us s1 ⟨vs,H1,I1,r,hF1,q⟩=>⟨at_ I1 hF1,?_⟩) he hpl
 have hl:us.length=ps.length:=by rw[<-r.length];exact Fk.len _ _ _ _ q
 refine Dc (Dd (Fk.run X.A X.stack s1 H1 ⟨us,[]⟩ us vs Q E hr I1.env0 (hb s1 us hl) r q) fun r s' hq=>?_)
 match r,hq with
 |.error e,hq=>exact hx pins σ H1 s1 e s' I1 hq
 |.ok (.ret u),hq=>exact I1.after hq
 |.ok .next,hq=>exact False.elim hq
 |.ok .brk,hq=>exact False.elim hq
 |.ok .cont,hq=>exact False.elim hq
end
end L2
namespace L3
open PySem PySem.Spec PyProof.Rows L2
noncomputable def eLam:E3:=fun (_:S3) (h:H3)=>match (h[0]? :Option C3) with
 |some .tab=>.ok (.v (.fn ("<fn>" :Str) [])) (h.set 0 .tb2)
 |some .tb2=>.ok (.v (.fn ("<fn>" :Str) [])) h
 |_=>.no
structure LamK (κ:Kx) (q:Str) (pos:Pos) (mk:Addr->Value->Obj):Prop where
 lm:∀c f ctv,κ.lm c f (yK f (mk c ctv)) (yU c q)
 lo:∀c f u v,κ.lm c f u v->∃ctv,u=yK f (mk c ctv)/\v=yU c q
 tc:∀c,κ.tc c (.tbl (#[]++ #[rawInt pos.line,rawInt pos.col,Value.ref c])) (yU c q)
 to:∀c t v,κ.tc c t v->t=.tbl (#[]++ #[rawInt pos.line,rawInt pos.col,Value.ref c])/\v=yU c q
section
variable {X:Cx} {κ:Kx} {E:XK} {F:Fr} {σ:L2.St} {H:Hp} {Q:VK} {e:Expr} {es:List Expr} {pos p:Pos} {i:Nat}
def Lx {a b:Addr} {u v:HO} (h:a≠b):zh (zh H a u) b v=zh (zh H b v) a u:=by
 funext d
 by_cases h1:d=a
 .subst h1;rw[zj h,zF,zF]
 .by_cases h2:d=b
  .subst h2;rw[zF,zj h1,zF]
  .rw[zj h2,zj h1,zj h1,zj h2]
def R0 {c:Addr} {params:Arguments} {body:Expr} {scope:Scope} {clos:List (Str×Addr)} (L:LamK κ (X.env.qual++"<lambda>") pos fun c' ctv=>PySem.W.kla_obj "<lambda>" (X.env.qual++"<lambda>") params body scope clos ((X.mg "__name__").getD .none) c' ctv)
  (hcl:closureFor scope X.env=pure clos) (hcd:X.env.code=.ref c) (hC:PySem.W.CodeHd X.base c κ.tb) (hB:X.base.BuiltinsAt X.mg κ.tb) (hm:mainGlobals≠κ.tb) (hdf:defaultsOf params X.env=([],[]))
  (ht:∀c':Addr,TriplesOk (#[]++ #[rawInt pos.line,rawInt pos.col,Value.ref c']).toList) (hf:∀c':Addr,codeAmong pos (#[]++ #[rawInt pos.line,rawInt pos.col,Value.ref c']).toList=some (Value.ref c')):
  PE X (.Lambda params body scope pos) (zi κ E eLam):=by
 intro pins s σ H Q I ⟨F,rel,o⟩;unfold eLam at o
 match q:F.h[0]?,o with
 |some .tab,o=>
  rcases rel.heap.cell 0 _ q with z|⟨a,ha,e1,e2⟩
  .cases z
  .subst e1
   refine Ru hcl hcd hC hB hm hdf pins s σ H Q I ⟨e2,fun f c ctv nf nc fc fP cP=>?_⟩
   obtain⟨nc1,nc2⟩:=rel.heap.off_new nc;obtain⟨nf1,nf2⟩:=rel.heap.off_new nf;have nf':∀{v:HO},zh H c v f=none:=by intro v;rw[zj fc];exact nf
   show Q (.ref f) (zh (zh (zh H κ.tb _) c _) f _);rw[Lx (Av cP),Lx (Av fP)];have r2:=(rel.laid (o:=yU c (X.env.qual++"<lambda>")) nc).laid (o:=yK f (PySem.W.kla_obj "<lambda>" (X.env.qual++"<lambda>") params body scope clos ((X.mg "__name__").getD .none) c ctv)) nf';have x2:Ext No F.β H F.β _:=(yh (o:=yU c (X.env.qual++"<lambda>")) nc).trans0 (yh (o:=yK f (PySem.W.kla_obj "<lambda>" (X.env.qual++"<lambda>") params body scope clos ((X.mg "__name__").getD .none) c ctv)) nf');have ex:=GJ (o:= .tbl (#[]++ #[rawInt pos.line,rawInt pos.col,Value.ref c])) ha (r2.heap.btr' 0 _ ha);have tc:∀{d:Addr} {u w:HO},d≠κ.tb->Tk F.β F.O (zh (zh H c (yU c (X.env.qual++"<lambda>"))) f (yK f (PySem.W.kla_obj "<lambda>" (X.env.qual++"<lambda>") params body scope clos ((X.mg "__name__").getD .none) c ctv))) d u->Tk F.β F.O (zh (zh (zh H c (yU c (X.env.qual++"<lambda>"))) f (yK f (PySem.W.kla_obj "<lambda>" (X.env.qual++"<lambda>") params body scope clos ((X.mg "__name__").getD .none) c ctv))) κ.tb w) d u:=fun n t=>⟨by rw[zj n];exact t.1,t.2⟩
   have tkc:Tk F.β F.O (zh (zh H c (yU c (X.env.qual++"<lambda>"))) f (yK f (PySem.W.kla_obj "<lambda>" (X.env.qual++"<lambda>") params body scope clos ((X.mg "__name__").getD .none) c ctv))) c (yU c (X.env.qual++"<lambda>")):=⟨by rw[zj (Av fc),zF],nc1,nc2⟩
   have r3:=Rel.next (F:=F) r2 ex (r2.heap.wrLoc ha (c':= .tb2) ⟨rfl,c,_,_,L.tc c,(by intro _ z;cases z),zF,tc cP tkc⟩)
   exact o F.β (.ref f) _ (x2.trans0 ex) ⟨r3,.lam (L.lm c f ctv) (tc fP ⟨zF,nf1,nf2⟩) (tc cP tkc)⟩
 |some .tb2,o=>
  rcases rel.heap.cell 0 _ q with z|⟨a,ha,e1,c,t,v,tc,_,e2,tk⟩
  .cases z
  .subst e1
   obtain⟨rfl,rfl⟩:=L.to c t v tc
   refine Rx hcl hcd hC hB hdf ht hf pins s σ H Q I ⟨c,e2,fun f ctv nf=>?_⟩
   obtain⟨nf1,nf2⟩:=rel.heap.off_new nf;have fc:c≠f:=fun z=>by subst z;rw[tk.1]at nf;cases nf
   exact o F.β (.ref f) _ (yh nf) ⟨rel.laid nf,.lam (L.lm c f ctv) ⟨zF,nf1,nf2⟩ ⟨by rw[zj fc];exact tk.1,tk.2⟩⟩
 |none,o=>exact o.elim
 |some (.lst _),o=>exact o.elim
 |some (.dK _),o=>exact o.elim
 |some (.dT _),o=>exact o.elim
 |some (.ins _ _),o=>exact o.elim
 |some .dead,o=>exact o.elim
def EY (i:Nat) (z:Int) (t:A3):E3:=fun s h=>match s[i]? with
 |some (some (.v (.fn c [])))=>if c=("<fn>" :Str) then (t s h).bind fun fs h1=>if fs.length=1 then .ok (.v (.int z)) h1 else .no else .no
 |_=>.no
def spZ (z:Int):Sp:=fun vs H Q _=>vs.length=1/\Q (.int z) H
def WLam (mk:Addr->Value->Obj) (q:Str) (z:Int) (f:Addr) (ob:Obj) (fd:FuncData) (sp:Sp):Prop:=∃c ctv,ob=mk c ctv/\ob.data=.func fd/\sp=Lw f c ob q (spZ z)
def R1 {q:Str} {mk:Addr->Value->Obj} {t:A3} {z:Int} (hlo:∀c f u v,κ.lm c f u v->∃ctv,u=yK f (mk c ctv)/\v=yU c q) (hfd:∀c ctv,∃fd,(mk c ctv).data=.func fd) (hk:κ.clo=none) (hne:κ.cl ("<fn>" :Str)=none) (h:zi κ E (EY i z t) σ H Q):
  ∃f ob fd sp,WLam mk q z f ob fd sp/\σ[i]? =some (some (.ref f))/\H f=some (yK f ob)/\zG κ E t σ H fun vs H1=>H1 f=some (yK f ob)/\sp vs H1 Q E:=by
 obtain⟨F,rel,o⟩:=h;unfold EY at o
 match q0:F.s[i]?,o with
 |some (some (.v (.fn c []))),o=>
  by_cases hc:c=("<fn>" :Str)
  .subst hc
   simp only[Aa rfl]at o;obtain⟨v,hσ,rv⟩:=rel.slot i _ q0;cases (show Rep κ F.β F.O H (.fn ("<fn>" :Str) []) v from rv) with
   |exc k=>rw[hne]at k;cases k
   |clo k _=>rw[hk]at k;cases k
   | @lam f c u w k t1 t2=>
    obtain⟨ctv,rfl,rfl⟩:=hlo c f u w k;obtain⟨fd,hd⟩:=hfd c ctv
    refine⟨f,mk c ctv,fd,_,⟨c,ctv,rfl,hd,rfl⟩,hσ,t1.1,(z7 (K:=kA κ) zM rel o).mono fun vs H1 ⟨β1,h1,fs,e1,⟨r1,rf⟩,o1⟩=>?_⟩
    have k1:=(e1.keep _ _ t1.1 t1.2.1 id).1;have k2:=(e1.keep _ _ t2.1 t2.2.1 id).1
    by_cases hl:fs.length=1
    .rw[Aa hl]at o1
     exact⟨k1,k1,k2,by rw[<-rf.length];exact hl,o1 β1 (.int z) H1 Ext.refl ⟨r1,.int _⟩⟩
    .rw[Ab hl]at o1;exact o1.elim
  .simp only[Ab hc]at o;exact o.elim
def R3 {x y:Str} {q:Str} {z:Int} {j:Nat} {kp:Pos} {params:Arguments} {scope:Scope} {t:A3} {k:Nat}
  (hlo:∀c f u v,κ.lm c f u v->∃ctv,u=yK f (PySem.W.kla_obj "<lambda>" q params (.Constant (.int z) j kp) scope [] ((X.mg "__name__").getD .none) c ctv)/\v=yU c q) (S:CloScope [y] [y] [] scope) (hbd:∀c ctv (s:Shared) (us:List Value),us.length=[y].length->BindsTo s (PySem.W.kla_fn "<lambda>" q params (.Constant (.int z) j kp) scope [] ((X.mg "__name__").getD .none) (.ref c) ctv) ⟨us,[]⟩ (([y]:List Str).zip us))
  (hk:κ.clo=none) (hne:κ.cl ("<fn>" :Str)=none) (hr:Room (k+1) X.A) (hN:X.N[i]? =some x) (hv:Vis X.env.scope x) (hx:AB (XT X.prog X.w) X E)
  (ha:PA X (e::es) (zG κ E t)) (hd:(x==("__debug__" :Str))=false:=by decide) (hcd:(x==("__classdict__" :Str))=false:=by decide) (he:SE X e es:=by rfl) (hpl:BA X pos es:=by rfl):
  PE X (.Call (.Name x p) (e::es) [] pos) (zi κ E (EY i z t)):=
 yu (Rz (W:=WLam (fun c ctv=>PySem.W.kla_obj "<lambda>" q params (.Constant (.int z) j kp) scope [] ((X.mg "__name__").getD .none) c ctv) q z) (CX:=XT X.prog X.w) (k:=k+1) (ps:=[y])
  (fun f ob fd sp ⟨c,ctv,e1,e2,e3⟩=>by
   subst e1;subst e3;cases e2
   refine⟨rfl,Ry (N:=[y]) (ps:=[y]) S ⟨(by intro _ h;cases h),(by intro _ _ _ h;cases h),(by intro _ _ h;cases h)⟩ (fun vs H Q E h=>h.1) fun A outer s H vs Q E _ h=>⟨_,Jv,h.2⟩,hbd c ctv⟩)
  hr hN hv hx ha hd hcd he hpl) fun _ _ _ h=>R1 hlo (fun c ctv=>⟨_,rfl⟩) hk hne h
def fn3k {P:Program} {w:World} {K:FG} {mg:Str->Option Value} {base:Heap} {x qual:Str} {st:Stmt} {f c:Addr} {fd:FuncData} {N ps:List Str} {k:Nat} {b:D3} (Fn:Fun K x qual st f fd) (S:FnScope N ps (zC st)) (hcode:fd.code=.ref c)
  (hb:∀(A:Around) (outer:List Env) (s:Shared) (H:Hp) (E:XK),Room k (A.deeper (envOfC qual (zC st) s.heap.objs.size f (.ref c)))->
   yk (yf (XT P w) P w K mg base N qual (zC st) f (.ref c) A outer s H E) (qH st) (zl κ E b)):FnOk P w K mg base (XT P w) (k+1) f fd ps (zm κ ps.length (fun3 ps.length N.length b)):=by
 obtain⟨oc,od,kV,doc,pm,an,cdv,ct,osl,rfl,lk,hcd⟩:=Fn.ex;have hcode:cdv=.ref c:=hcode;subst hcode;exact JB lk hcd S (fun vs H Q E h=>by obtain⟨_,_,_,_,h,_⟩:=h;exact h) fun A outer s H vs Q E hr h=>⟨zl κ E b,hb A outer s H E hr,QM (by have:=congrArg List.length S.pre;rw[A5]at this;lia) h⟩
end
end L3
namespace Se
open PySem PySem.Spec PyProof.Rows
section
variable {prog:Program} {w:World} {A:Around} {E:VP} {s:Shared}
set_option maxHeartbeats 3200000 in
end
end Se
namespace My
open PySem L2 L3
noncomputable def zJ:List (Str×Str×Bool):=[(("NoName" :Str),("NoName" :Str),true),(("NoName" :Str),("NoNumber" :Str),false),(("NoName" :Str),("NoCalendar" :Str),false),(("NoName" :Str),("NoSpans" :Str),false),(("NoName" :Str),("TooMany" :Str),false),(("NoName" :Str),("NoPlan" :Str),false),(("NoName" :Str),("NoLine" :Str),false),(("NoName" :Str),("Twice" :Str),false),(("NoName" :Str),("Taken" :Str),false),(("NoName" :Str),("NoJob" :Str),false),(("NoName" :Str),("TooLong" :Str),false),(("NoName" :Str),("YardError" :Str),true),(("NoNumber" :Str),("NoName" :Str),false),(("NoNumber" :Str),("NoNumber" :Str),true),(("NoNumber" :Str),("NoCalendar" :Str),false),(("NoNumber" :Str),("NoSpans" :Str),false),(("NoNumber" :Str),("TooMany" :Str),false),(("NoNumber" :Str),("NoPlan" :Str),false),(("NoNumber" :Str),("NoLine" :Str),false),(("NoNumber" :Str),("Twice" :Str),false),(("NoNumber" :Str),("Taken" :Str),false),(("NoNumber" :Str),("NoJob" :Str),false),(("NoNumber" :Str),("TooLong" :Str),false),(("NoNumber" :Str),("YardError" :Str),true),(("NoCalendar" :Str),("NoName" :Str),false),(("NoCalendar" :Str),("NoNumber" :Str),false),(("NoCalendar" :Str),("NoCalendar" :Str),true),(("NoCalendar" :Str),("NoSpans" :Str),false),(("NoCalendar" :Str),("TooMany" :Str),false),(("NoCalendar" :Str),("NoPlan" :Str),false),(("NoCalendar" :Str),("NoLine" :Str),false),(("NoCalendar" :Str),("Twice" :Str),false),(("NoCalendar" :Str),("Taken" :Str),false),(("NoCalendar" :Str),("NoJob" :Str),false),(("NoCalendar" :Str),("TooLong" :Str),false),(("NoCalendar" :Str),("YardError" :Str),true),(("NoSpans" :Str),("NoName" :Str),false),(("NoSpans" :Str),("NoNumber" :Str),false),(("NoSpans" :Str),("NoCalendar" :Str),false),(("NoSpans" :Str),("NoSpans" :Str),true),(("NoSpans" :Str),("TooMany" :Str),false),(("NoSpans" :Str),("NoPlan" :Str),false),(("NoSpans" :Str),("NoLine" :Str),false),(("NoSpans" :Str),("Twice" :Str),false),(("NoSpans" :Str),("Taken" :Str),false),(("NoSpans" :Str),("NoJob" :Str),false),(("NoSpans" :Str),("TooLong" :Str),false),(("NoSpans" :Str),("YardError" :Str),true),(("TooMany" :Str),("NoName" :Str),false),(("TooMany" :Str),("NoNumber" :Str),false),(("TooMany" :Str),("NoCalendar" :Str),false),(("TooMany" :Str),("NoSpans" :Str),false),(("TooMany" :Str),("TooMany" :Str),true),(("TooMany" :Str),("NoPlan" :Str),false),(("TooMany" :Str),("NoLine" :Str),false),(("TooMany" :Str),("Twice" :Str),false),(("TooMany" :Str),("Taken" :Str),false),(("TooMany" :Str),("NoJob" :Str),false),(("TooMany" :Str),("TooLong" :Str),false),(("TooMany" :Str),("YardError" :Str),true),(("NoPlan" :Str),("NoName" :Str),false),(("NoPlan" :Str),("NoNumber" :Str),false),(("NoPlan" :Str),("NoCalendar" :Str),false),(("NoPlan" :Str),("NoSpans" :Str),false),(("NoPlan" :Str),("TooMany" :Str),false),(("NoPlan" :Str),("NoPlan" :Str),true),(("NoPlan" :Str),("NoLine" :Str),false),(("NoPlan" :Str),("Twice" :Str),false),(("NoPlan" :Str),("Taken" :Str),false),(("NoPlan" :Str),("NoJob" :Str),false),(("NoPlan" :Str),("TooLong" :Str),false),(("NoPlan" :Str),("YardError" :Str),true),(("NoLine" :Str),("NoName" :Str),false),(("NoLine" :Str),("NoNumber" :Str),false),(("NoLine" :Str),("NoCalendar" :Str),false),(("NoLine" :Str),("NoSpans" :Str),false),(("NoLine" :Str),("TooMany" :Str),false),(("NoLine" :Str),("NoPlan" :Str),false),(("NoLine" :Str),("NoLine" :Str),true),(("NoLine" :Str),("Twice" :Str),false),(("NoLine" :Str),("Taken" :Str),false),(("NoLine" :Str),("NoJob" :Str),false),(("NoLine" :Str),("TooLong" :Str),false),(("NoLine" :Str),("YardError" :Str),true),(("Twice" :Str),("NoName" :Str),false),(("Twice" :Str),("NoNumber" :Str),false),(("Twice" :Str),("NoCalendar" :Str),false),(("Twice" :Str),("NoSpans" :Str),false),(("Twice" :Str),("TooMany" :Str),false),(("Twice" :Str),("NoPlan" :Str),false),(("Twice" :Str),("NoLine" :Str),false),(("Twice" :Str),("Twice" :Str),true),(("Twice" :Str),("Taken" :Str),false),(("Twice" :Str),("NoJob" :Str),false),(("Twice" :Str),("TooLong" :Str),false),(("Twice" :Str),("YardError" :Str),true),(("Taken" :Str),("NoName" :Str),false),(("Taken" :Str),("NoNumber" :Str),false),(("Taken" :Str),("NoCalendar" :Str),false),(("Taken" :Str),("NoSpans" :Str),false),(("Taken" :Str),("TooMany" :Str),false),(("Taken" :Str),("NoPlan" :Str),false),(("Taken" :Str),("NoLine" :Str),false),(("Taken" :Str),("Twice" :Str),false),(("Taken" :Str),("Taken" :Str),true),(("Taken" :Str),("NoJob" :Str),false),(("Taken" :Str),("TooLong" :Str),false),(("Taken" :Str),("YardError" :Str),true),(("NoJob" :Str),("NoName" :Str),false),(("NoJob" :Str),("NoNumber" :Str),false),(("NoJob" :Str),("NoCalendar" :Str),false),(("NoJob" :Str),("NoSpans" :Str),false),(("NoJob" :Str),("TooMany" :Str),false),(("NoJob" :Str),("NoPlan" :Str),false),(("NoJob" :Str),("NoLine" :Str),false),(("NoJob" :Str),("Twice" :Str),false),(("NoJob" :Str),("Taken" :Str),false),(("NoJob" :Str),("NoJob" :Str),true),(("NoJob" :Str),("TooLong" :Str),false),(("NoJob" :Str),("YardError" :Str),true),(("TooLong" :Str),("NoName" :Str),false),(("TooLong" :Str),("NoNumber" :Str),false),(("TooLong" :Str),("NoCalendar" :Str),false),(("TooLong" :Str),("NoSpans" :Str),false),(("TooLong" :Str),("TooMany" :Str),false),(("TooLong" :Str),("NoPlan" :Str),false),(("TooLong" :Str),("NoLine" :Str),false),(("TooLong" :Str),("Twice" :Str),false),(("TooLong" :Str),("Taken" :Str),false),(("TooLong" :Str),("NoJob" :Str),false),(("TooLong" :Str),("TooLong" :Str),true),(("TooLong" :Str),("YardError" :Str),true)]
def Iv:D3:=(sSeq (sSet 3 (eOp zY (pV 0) (pE (eOp zU (kJ 10) (kJ 20))))) (sRet (eOp zD (pE (eLst (aCons (pE (eOp oSub (pV 1) (kJ 1))) (aCons (pE (eOp zk (pV 2) (kJ 1))) (aCons (pE (eOp oSub (pE (eOp oSub (pV 1) (kJ 1))) (pV 3))) (aCons (pE (eOp zk (pE (eOp zk (pV 2) (kJ 1))) (pV 3))) (aCons (pE (eC (.bl true))) (aCons (pE (eC .non)) (aCons (pE (eC (.str ("1" :Str)))) (aCons (pE (eLst (aCons (pV 1) aNil))) (aCons (pE (eTup (aCons (pV 1) aNil))) (aCons (pE (eC (.bl false))) aNil)))))))))))) (pE (eOp zx (pV 0) (kJ 10))))))
def f_law_odd:F3:=fun3 3 4 Iv
def DA:zq f_law_odd 3:=zE
def Iw:D3:=(sRet (eOp zx (pE (eOp zk (pE (eOp zY (pE (eOp zx (pV 0) (kJ 2147483647))) (kJ 48271))) (pE (eOp zY (kJ 69621) (pV 1))))) (kJ 2147483647)))
def f_law_mixed:F3:=fun3 2 2 Iw
def EZ:zq f_law_mixed 2:=zE
def AE:D3:=(sSeq (sIf (tE (eOp z9 (pV 0) (kJ 1))) (sRet (eCall f_law_odd (aCons (pV 1) (aCons (kJ 0) (aCons (pE (eOp zU (kJ 10) (kJ 10))) aNil))))) sSkip) (sSeq (sSet 2 (eOp oDiv (pV 1) (kJ 40))) (sSeq (sIf (tE (eOp z9 (pE (eOp zx (pV 1) (kJ 8))) (kJ 0))) (sRet (eOp zD (pE (eLst (aCons (pE (eLst (aCons (kJ 1) (aCons (kJ 1) aNil)))) (aCons (pE (eTup (aCons (kJ 1) aNil))) (aCons (pE (eTup (aCons (kJ 1) (aCons (kJ 1) (aCons (kJ 1) aNil))))) (aCons (kJ 1) (aCons (pE (eC .non)) (aCons (pE (eC (.str ("11" :Str)))) (aCons (pE yq) (aCons (pE (eTup aNil)) aNil)))))))))) (pE (eOp zx (pE (eOp oDiv (pV 1) (kJ 8))) (kJ 8))))) sSkip) (sSeq (sIf (tAnd3 (tE (eOp z9 (pV 0) (kJ 0))) (tE (eOp z9 (pE (eOp zx (pV 1) (kJ 8))) (kJ 1)))) (sRet (eTup (aCons (pE (eOp zk (kJ 1) (pE (eOp zx (pV 2) (kJ 1000))))) (aCons (pE (eOp oSub (pE (eOp zx (pV 2) (kJ 1000))) (pE (eOp zx (pE (eOp oDiv (pV 2) (kJ 1000))) (kJ 3))))) aNil)))) sSkip) (sSeq (sIf (tE (eOp z9 (pV 0) (kJ 0))) (sSeq (sSet 3 (eCall f_law_odd (aCons (pV 2) (aCons (kJ 0) (aCons (pE (eOp zU (kJ 10) (kJ 10))) aNil))))) (sSeq (sFz 3) (sRet (eOp zD (pE (eLst (aCons (pE (eTup (aCons (pV 3) (aCons (pE (eOp zU (kJ 10) (kJ 10))) aNil)))) (aCons (pE (eTup (aCons (kJ 0) (aCons (pV 3) aNil)))) aNil)))) (pE (eOp zx (pV 1) (kJ 2))))))) sSkip) (sRet (eOp zD (pE (eLst (aCons (pE (eTup (aCons (pE (eCall f_law_odd (aCons (pV 2) (aCons (kJ 1) (aCons (pE (eOp zU (kJ 10) (kJ 6))) aNil))))) (aCons (kJ 3) aNil)))) (aCons (pE (eTup (aCons (kJ 3) (aCons (pE (eCall f_law_odd (aCons (pV 2) (aCons (kJ 0) (aCons (kJ 16) aNil))))) aNil)))) aNil)))) (pE (eOp zx (pV 1) (kJ 2))))))))))
def f_law_bad:F3:=fun3 2 4 AE
def R4:zq f_law_bad 2:=zE
def GW:D3:=(sSeq (sIf (tE (eOp oLt (pV 1) (pE (eB bLen (aCons (pV 0) aNil))))) (sRet (eOp zD (pV 0) (pV 1))) sSkip) (sRet (eC (.int 0))))
def f_law_cell_at:F3:=fun3 2 2 GW
def AQ:zq f_law_cell_at 2:=zE
def FA:D3:=(sSeq (sIf (tE (eOp z9 (pV 0) (kJ 1))) (sRet (eOp zD (pE (eLst (aCons (kJ 0) (aCons (pE (eOp zU (kJ 10) (kJ 10))) (aCons (pV 1) aNil))))) (pE (eOp zx (pV 1) (kJ 3))))) sSkip) (sSeq (sIf (tE (eOp z9 (pV 0) (kJ 0))) (sRet (eOp zD (pE (eLst (aCons (pE (eTup (aCons (kJ 0) (aCons (kJ 0) aNil)))) (aCons (pE (eTup (aCons (kJ 0) (aCons (pE (eOp zU (kJ 10) (kJ 10))) aNil)))) (aCons (pE (eTup (aCons (pE (eOp zU (kJ 10) (kJ 10))) (aCons (pE (eOp zU (kJ 10) (kJ 10))) aNil)))) (aCons (pE (eTup (aCons (pV 1) (aCons (pE (eOp zk (pV 1) (pE (eOp zx (pV 1) (kJ 90))))) aNil)))) aNil)))))) (pE (eOp zx (pV 1) (kJ 4))))) sSkip) (sRet (eOp zD (pE (eLst (aCons (pE (eTup (aCons (kJ 1) (aCons (kJ 0) aNil)))) (aCons (pE (eTup (aCons (pE (eOp zU (kJ 10) (kJ 6))) (aCons (kJ 16) aNil)))) (aCons (pE (eTup (aCons (pE (eOp zk (kJ 1) (pE (eOp zx (pV 1) (pE (eOp zU (kJ 10) (kJ 6))))))) (aCons (pE (eOp zx (pV 1) (kJ 17))) aNil)))) aNil))))) (pE (eOp zx (pV 1) (kJ 3)))))))
def f_law_good:F3:=fun3 2 2 FA
def Iy:zq f_law_good 2:=zE
def DB:E3:=(qf 1 [0,1] (qt (aCons (pE (eOp zk (kJ 1) (pE (eOp zx (pV 2) (kJ 8))))) aNil)) (gN 0) tTru (eCall f_law_good (aCons (pV 1) (aCons (pE (eCall f_law_mixed (aCons (pE (eCall f_law_cell_at (aCons (pV 2) (aCons (pE (eOp zk (kJ 2) (pV 0))) aNil)))) (aCons (pV 0) aNil)))) aNil))))
def DC:E3:=(qf 1 [0] (qt (aCons (pE (eOp zk (pV 6) (kJ 1))) aNil)) (gN 0) tTru (eCall f_law_good (aCons (pV 1) (aCons (pE (eOp zk (kJ 2) (pE (eOp zY (kJ 12) (pV 0))))) aNil))))
def DD:E3:=(qf 1 [0] (qt (aCons (pV 6) aNil)) (gN 0) tTru (eCall f_law_good (aCons (pV 1) (aCons (pE (eOp zk (kJ 2) (pE (eOp zY (kJ 12) (pV 0))))) aNil))))
def Iz:D3:=(sSeq (sSet 2 (eCall f_law_mixed (aCons (pE (eCall f_law_cell_at (aCons (pV 1) (aCons (kJ 1) aNil)))) (aCons (kJ 1) aNil)))) (sSeq (sSet 3 DB) (sSeq (sSet 4 (eOp zx (pE (eOp oDiv (pV 2) (kJ 8))) (pE (eOp zk (pE (eB bLen (aCons (pV 3) aNil))) (kJ 1))))) (sSeq (sSet 5 (eCall f_law_bad (aCons (pV 0) (aCons (pE (eCall f_law_mixed (aCons (pE (eCall f_law_cell_at (aCons (pV 1) (aCons (kJ 11) aNil)))) (aCons (kJ 2) aNil)))) aNil)))) (sSeq (sSet 6 (eOp zD (pE (eLst (aCons (kJ 200) (aCons (kJ 200) (aCons (kJ 16) aNil))))) (pV 0))) (sSeq (sFz 5) (sSeq (sSet 7 (eLst (aCons (pE (eOp zk (pE (eOp zk (pE (eSl (pV 3) poN (poS (pV 4)))) (pE (eLst (aCons (pV 5) aNil))))) (pE (eSl (pV 3) (poS (pV 4)) poN)))) (aCons (pE (eB EX (aCons (pV 3) aNil))) (aCons (pE (eC .non)) (aCons (kJ 5) (aCons (pE (eC (.str ("a" :Str)))) (aCons (pE yq) (aCons (pE (eOp zD (pV 3) (kJ 0))) aNil))))))))) (sSeq (qJ y6 (pV 7) (aCons (pE DC) aNil)) (sSeq (qJ y6 (pV 7) (aCons (pE (eOp zY (pE (eLst (aCons (pE (eOp zD (pV 3) (kJ 0))) aNil))) (pE (eOp zk (pV 6) (kJ 1))))) aNil)) (sSeq (sFz 7) (sSeq (sFz 3) (sRet (eLst (aCons (pV 3) (aCons (pV 7) (aCons (pE DD) aNil))))))))))))))))
def f_law_lists:F3:=fun3 2 8 Iz
def R5:zq f_law_lists 2:=zE
def IA:D3:=(zI (iL (pE (eB BY (aCons (pV 0) aNil)))) (gT (gsCons (gN 2) (gsCons (gN 3) gsNil))) (sIf (tAnd3 (tP (pV 1)) (tE (eOp oLe (pV 2) (pE (eOp zk (pE (eOp zD (pE (eOp zD (pV 1) (pE (eNeg (kJ 1))))) (kJ 1))) (kJ 1)))))) (CV (pV 1) (pE (eNeg (kJ 1))) (eTup (aCons (pE (eOp zD (pE (eOp zD (pV 1) (pE (eNeg (kJ 1))))) (kJ 0))) (aCons (pE (eB bMax (aCons (pE (eOp zD (pE (eOp zD (pV 1) (pE (eNeg (kJ 1))))) (kJ 1))) (aCons (pV 3) aNil)))) aNil)))) (qJ y6 (pV 1) (aCons (pE (eTup (aCons (pV 2) (aCons (pV 3) aNil)))) aNil))))
def IB:D3:=(sSeq (sSet 1 (eLst aNil)) (sSeq IA (sRetS 1)))
def f_merged:F3:=fun3 1 4 IB
def Ly:zq f_merged 1:=zE
def FC:D3:=(sRet (eAnd (eB bIsT (aCons (pV 0) (aCons (pE (eC (.ty "list"))) aNil))) (eOp oLe (pE (eB bLen (aCons (pV 0) aNil))) (kJ 200))))
def f_is_short_list:F3:=fun3 1 1 FC
def Lz:zq f_is_short_list 1:=zE
def IC:D3:=(sRet (eAnd (eB bIsT (aCons (pV 0) (aCons (pE (eC (.ty "int"))) aNil))) (eNot (eB bIsT (aCons (pV 0) (aCons (pE (eC (.ty "bool"))) aNil))))))
def f_is_whole:F3:=fun3 1 1 IC
def GX:zq f_is_whole 1:=zE
def FD:D3:=(sRet (eAnd (eCall f_is_whole (aCons (pV 0) aNil)) (eChain oLe oLe (pV 1) (pV 0) (pV 2))))
def f_is_whole_between:F3:=fun3 3 3 FD
def FE:zq f_is_whole_between 3:=zE
def ID:D3:=(sRet (eCall f_is_whole_between (aCons (pV 0) (aCons (kJ 0) (aCons (kJ 10000000000) aNil)))))
def f_is_turn:F3:=fun3 1 1 ID
def IE:zq f_is_turn 1:=zE
def CH:D3:=(sSeq (sIf (tOr3 (tNot3 (tE (eB bIsT (aCons (pV 0) (aCons (pE (eC (.ty "tuple"))) aNil))))) (tE (eOp yO (pE (eB bLen (aCons (pV 0) aNil))) (kJ 2)))) (sRet (eC (.bl false))) sSkip) (sRet (eAnd (eCall f_is_turn (aCons (pE (eOp zD (pV 0) (kJ 0))) aNil)) (eAnd (eCall f_is_turn (aCons (pE (eOp zD (pV 0) (kJ 1))) aNil)) (eOp oLe (pE (eOp zD (pV 0) (kJ 0))) (pE (eOp zD (pV 0) (kJ 1))))))))
def f_is_row:F3:=fun3 1 1 CH
def R6:zq f_is_row 1:=zE
def GY:E3:=(qf 1 [] (iL (pV 0)) (gN 0) tTru (eCall f_is_row (aCons (pV 0) aNil)))
def DE:D3:=(sSeq (sIf (tOr3 (tNot3 (tE (eCall f_is_short_list (aCons (pV 0) aNil)))) (tNot3 (tE (eB (bAll fun bs=>bs.all id) (aCons (pE GY) aNil))))) (qh ("NoSpans" :Str) (aCons (pE (eC (.str ("this is no list of at most 200 tuples (first, last)" :Str)))) aNil)) sSkip) (sRet (eCall f_merged (aCons (pV 0) aNil))))
def f_tidy:F3:=fun3 1 1 DE
def R7:zq f_tidy 1:=zE
def GZ:E3:=(qf 1 [] (iL (pV 0)) (gN 0) tTru (eCall f_is_turn (aCons (pV 0) aNil)))
def Ha:E3:=(qf 1 [] (iL (pV 0)) (gN 0) tTru (eTup (aCons (pV 0) (aCons (pV 0) aNil))))
def DF:D3:=(sSeq (sIf (tOr3 (tNot3 (tE (eCall f_is_short_list (aCons (pV 0) aNil)))) (tNot3 (tE (eB (bAll fun bs=>bs.all id) (aCons (pE GZ) aNil))))) (qh ("NoSpans" :Str) (aCons (pE (eC (.str ("this is no list of at most 200 turns" :Str)))) aNil)) sSkip) (sRet (eCall f_merged (aCons (pE Ha) aNil))))
def f_spans_of:F3:=fun3 1 1 DF
def R8:zq f_spans_of 1:=zE
def IF:D3:=(zI (iL (pV 0)) (gT (gsCons (gN 2) (gsCons (gN 3) gsNil))) (sIf (tAnd3 (tP (pV 1)) (tE (eOp z9 (pE (eOp zD (pE (eOp zD (pV 1) (pE (eNeg (kJ 1))))) (kJ 1))) (pV 3)))) (CV (pV 1) (pE (eNeg (kJ 1))) (eTup (aCons (pE (eOp zk (pE (eOp zD (pE (eOp zD (pV 1) (pE (eNeg (kJ 1))))) (kJ 0))) (pV 2))) (aCons (pV 3) aNil)))) (qJ y6 (pV 1) (aCons (pE (eTup (aCons (pV 2) (aCons (pV 3) aNil)))) aNil))))
def IG:D3:=(sSeq (sSet 1 (eLst aNil)) (sSeq IF (sRetS 1)))
def f_neighbours_as_one:F3:=fun3 1 4 IG
def L0:zq f_neighbours_as_one 1:=zE
def FF:D3:=(sSeq (sSet 2 (eCall f_neighbours_as_one (aCons (pV 0) aNil))) (sSeq (sIf (tAnd3 (tP (pV 2)) (tE (eOp z9 (pE (eOp zD (pE (eOp zD (pV 2) (pE (eNeg (kJ 1))))) (kJ 1))) (pV 1)))) (qJ mPop (pV 2) aNil) sSkip) (sRetS 2)))
def f_kept_rows:F3:=fun3 2 3 FF
def R9:zq f_kept_rows 2:=zE
def IH:D3:=(sRet (eCall f_is_whole_between (aCons (pV 0) (aCons (kJ 0) (aCons (kJ 16) aNil)))))
def f_is_machines:F3:=fun3 1 1 IH
def L1:zq f_is_machines 1:=zE
def DG:D3:=(sSeq (sIf (tOr3 (tNot3 (tE (eB bIsT (aCons (pV 0) (aCons (pE (eC (.ty "tuple"))) aNil))))) (tE (eOp yO (pE (eB bLen (aCons (pV 0) aNil))) (kJ 2)))) (sRet (eC (.bl false))) sSkip) (sRet (eAnd (eCall f_is_whole_between (aCons (pE (eOp zD (pV 0) (kJ 0))) (aCons (kJ 1) (aCons (kJ 1000000) aNil)))) (eCall f_is_machines (aCons (pE (eOp zD (pV 0) (kJ 1))) aNil)))))
def f_is_calendar_row:F3:=fun3 1 1 DG
def RA:zq f_is_calendar_row 1:=zE
def Hb:E3:=(qf 1 [] (iL (pV 0)) (gN 0) tTru (eCall f_is_calendar_row (aCons (pV 0) aNil)))
def FH:D3:=(sSeq (sIf (tOr3 (tNot3 (tE (eB bIsT (aCons (pV 0) (aCons (pE (eC (.ty "list"))) aNil))))) (tE (eOp oGt (pE (eB bLen (aCons (pV 0) aNil))) (kJ 16)))) (sRet (eC (.bl false))) sSkip) (sRet (eB (bAll fun bs=>bs.all id) (aCons (pE Hb) aNil))))
def f_are_calendar_rows:F3:=fun3 1 1 FH
def RB:zq f_are_calendar_rows 1:=zE
def II:D3:=(sRet (eCall f_is_whole_between (aCons (pV 0) (aCons (kJ 1) (aCons (kJ 16) aNil)))))
def f_is_rest:F3:=fun3 1 1 II
def RC:zq f_is_rest 1:=zE
def FI:D3:=(sSeq (sIf (tOr3 (tNot3 (tE (eCall f_are_calendar_rows (aCons (pV 1) aNil)))) (tNot3 (tE (eCall f_is_rest (aCons (pV 2) aNil))))) (qh ("NoCalendar" :Str) (aCons (pE (eC (.str ("these are no rows (many, machines) and a rest of machines" :Str)))) aNil)) sSkip) (sSeq (GK [("Calendar" :Str)] ("stretches" :Str) (pV 0) (eCall f_kept_rows (aCons (pV 1) (aCons (pV 2) aNil)))) (GK [("Calendar" :Str)] ("beyond" :Str) (pV 0) (eV 2))))
def f_Calendar_init:F3:=fun3 3 3 FI
def L5:zq f_Calendar_init 3:=zE
def IJ:D3:=(zI (qt (aCons (pV 1) aNil)) (gN 4) (sSeq (sSet 5 (EY 0 3 (aCons (pV 4) aNil))) (sSeq (sFz 5) (sSeq (sIf (tNot3 (tE (eCall f_is_machines (aCons (pV 5) aNil)))) (qh ("NoCalendar" :Str) (aCons (pE (eC (.str ("the function tells no number of machines" :Str)))) aNil)) sSkip) (sSeq (sFz 5) (qJ y6 (pV 3) (aCons (pE (eTup (aCons (kJ 1) (aCons (pV 5) aNil)))) aNil)))))))
def Hc:D3:=(sSeq (sIf (tNot3 (tE (eCall f_is_whole_between (aCons (pV 1) (aCons (kJ 0) (aCons (kJ 200) aNil)))))) (qh ("NoCalendar" :Str) (aCons (pE (eC (.str ("a function is asked for 0 to 200 turns" :Str)))) aNil)) sSkip) (sSeq (sSet 3 (eLst aNil)) (sSeq IJ (sSeq (sFz 3) (sRet (eObj (eNew ("Calendar" :Str) f_Calendar_init (aCons (pE (eCall f_neighbours_as_one (aCons (pV 3) aNil))) (aCons (pV 2) aNil)))))))))
def f_calendar_of:F3:=fun3 3 6 Hc
def RD:zq f_calendar_of 3:=zE
def qN:D3:=(sIf (tE (eOp z9 (pV 0) (kJ 0))) (sExp (eCall f_tidy (aCons (pV 1) aNil))) (sIf (tE (eOp z9 (pV 0) (kJ 1))) (sExp (eCall f_spans_of (aCons (pV 1) aNil))) (sIf (tE (eOp z9 (pV 0) (kJ 2))) (sExp (eObj (eNew ("Calendar" :Str) f_Calendar_init (aCons (pV 1) (aCons (pV 2) aNil))))) (sExp (eCall f_calendar_of (aCons (pE eLam) (aCons (pV 1) (aCons (pV 2) aNil))))))))
def f_law_asked:F3:=fun3 3 3 qN
def RE:zq f_law_asked 3:=zE
def FJ:D3:=(sSeq (sSet 3 (eC .non)) (sSeq (CD (zH zJ) none f_law_asked (aCons (pV 0) (aCons (pV 1) (aCons (pV 2) aNil))) [(("YardError" :Str),some 4,(sSet 3 (eV 4)))]) (sRetS 3)))
def f_law_refusal:F3:=fun3 3 5 FJ
def BF:zq f_law_refusal 3:=zE
def IK:D3:=(sSeq (sSet 1 (eLst (aCons (pE (eB (zX (zH zJ)) (aCons (pV 0) (aCons (pE (eC (.cls ("NoName" :Str)))) aNil)))) (aCons (pE (eB (zX (zH zJ)) (aCons (pV 0) (aCons (pE (eC (.cls ("NoNumber" :Str)))) aNil)))) (aCons (pE (eB (zX (zH zJ)) (aCons (pV 0) (aCons (pE (eC (.cls ("NoCalendar" :Str)))) aNil)))) (aCons (pE (eB (zX (zH zJ)) (aCons (pV 0) (aCons (pE (eC (.cls ("NoSpans" :Str)))) aNil)))) aNil)))))) (sSeq (sSet 1 (eOp zk (pV 1) (pE (eLst (aCons (pE (eB (zX (zH zJ)) (aCons (pV 0) (aCons (pE (eC (.cls ("TooMany" :Str)))) aNil)))) (aCons (pE (eB (zX (zH zJ)) (aCons (pV 0) (aCons (pE (eC (.cls ("NoPlan" :Str)))) aNil)))) (aCons (pE (eB (zX (zH zJ)) (aCons (pV 0) (aCons (pE (eC (.cls ("NoLine" :Str)))) aNil)))) (aCons (pE (eB (zX (zH zJ)) (aCons (pV 0) (aCons (pE (eC (.cls ("Twice" :Str)))) aNil)))) aNil)))))))) (sSeq (sSet 1 (eOp zk (pV 1) (pE (eLst (aCons (pE (eB (zX (zH zJ)) (aCons (pV 0) (aCons (pE (eC (.cls ("Taken" :Str)))) aNil)))) (aCons (pE (eB (zX (zH zJ)) (aCons (pV 0) (aCons (pE (eC (.cls ("NoJob" :Str)))) aNil)))) (aCons (pE (eB (zX (zH zJ)) (aCons (pV 0) (aCons (pE (eC (.cls ("TooLong" :Str)))) aNil)))) aNil))))))) (sRet (eOp zk (pV 1) (pE (eLst (aCons (pE (eB (zX (zH zJ)) (aCons (pV 0) (aCons (pE (eC (.cls ("YardError" :Str)))) aNil)))) (aCons (pE (eB (bIsV (zH zJ)) (aCons (pV 0) (aCons (pE (eC (.ty "ValueError"))) aNil)))) aNil)))))))))
def f_law_kinds:F3:=fun3 1 2 IK
def FK:zq f_law_kinds 1:=zE
def He:E3:=(qf 1 [0] (qt (aCons (kJ 11) aNil)) (gN 0) tTru (eOp z9 (pV 0) (pV 1)))
def IL:D3:=(sRet (eOp zk (pE He) (pE (eLst (aCons (pE (eC (.bl true))) (aCons (pE (eC (.bl true))) aNil))))))
def f_law_due:F3:=fun3 1 1 IL
def FL:zq f_law_due 1:=zE
def IM:D3:=(zI (EK (aCons (pV 1) aNil)) (gT (gsCons (gN 2) (gsCons (gN 3) gsNil))) (sIf (tE (eOp yO (pE (eCall f_law_kinds (aCons (pV 3) aNil))) (pE (eCall f_law_due (aCons (pV 2) aNil))))) (sRet (eC (.bl false))) sSkip))
def IQ:D3:=(zI (EK (aCons (pE (eLst (aCons (pE (eXcN ("Twice" :Str) (aCons (pV 0) aNil))) (aCons (pE (eXcN ("Taken" :Str) (aCons (pV 0) aNil))) (aCons (pE (eXcN ("NoJob" :Str) (aCons (pV 0) aNil))) (aCons (pE (eXcN ("TooLong" :Str) (aCons (pV 0) aNil))) aNil)))))) aNil)) (gT (gsCons (gN 2) (gsCons (gN 3) gsNil))) (sIf (tOr3 (tE (eOp yO (pE (eCall f_law_kinds (aCons (pV 3) aNil))) (pE (eCall f_law_due (aCons (pE (eOp zk (kJ 7) (pV 2))) aNil))))) (tE (eOp yO (pE (eXm [("Twice" :Str),("Taken" :Str),("NoJob" :Str),("TooLong" :Str)] (pV 3))) (pV 0)))) (sRet (eC (.bl false))) sSkip))
def IS:D3:=(sSeq (sSet 1 (eLst (aCons (pE (eXc ("NoName" :Str) (aCons (pE (eC (.str ("a" :Str)))) aNil))) (aCons (pE (eXc ("NoNumber" :Str) (aCons (pE (eC (.str ("b" :Str)))) aNil))) (aCons (pE (eXc ("NoCalendar" :Str) (aCons (pE (eC (.str ("c" :Str)))) aNil))) (aCons (pE (eXc ("NoSpans" :Str) (aCons (pE (eC (.str ("d" :Str)))) aNil))) (aCons (pE (eXc ("TooMany" :Str) (aCons (pE (eC (.str ("e" :Str)))) aNil))) (aCons (pE (eXc ("NoPlan" :Str) (aCons (pE (eC (.str ("f" :Str)))) aNil))) (aCons (pE (eXc ("NoLine" :Str) (aCons (pE (eC (.str ("g" :Str)))) aNil))) aNil))))))))) (sSeq (sFz 1) (sSeq IM (sSeq IQ (sRet (eC (.bl true)))))))
def f_law_errors:F3:=fun3 1 4 IS
def RF:zq f_law_errors 1:=zE
def Hf:D3:=(zI (iL (pV 9)) (gN 11) (sSeq (sSet 7 (eCall f_law_refusal (aCons (pV 1) (aCons (pV 11) (aCons (kJ 1) aNil))))) (sSeq (sFz 7) (sIf (tOr3 (tE (eOp (oIsN false) (pV 7) (pE (eC .non)))) (tE (eOp yO (pE (eCall f_law_kinds (aCons (pV 7) aNil))) (pE (eCall f_law_due (aCons (pV 2) aNil)))))) (sRet (eC (.bl false))) sSkip))))
def IT:D3:=(sSeq (sSet 1 (eOp zx (pE (eCall f_law_cell_at (aCons (pV 0) (aCons (kJ 0) aNil)))) (kJ 4))) (sSeq (sSet 2 (eOp zD (pE (eLst (aCons (kJ 3) (aCons (kJ 3) (aCons (kJ 2) (aCons (kJ 2) aNil)))))) (pV 1))) (sSeq (sSet 3 (eOp zk (pE (eC (.str ("n" :Str)))) (pE (eB CZ (aCons (pE (eOp zx (pE (eCall f_law_cell_at (aCons (pV 0) (aCons (kJ 0) aNil)))) (pE (eOp zU (kJ 10) (kJ 20))))) aNil))))) (sSeq (sFz 3) (sSeq (sIf (tOr3 (tNot3 (tE (eCall f_law_errors (aCons (pV 3) aNil)))) (tOr3 (tE (eOp (oIsB true) (pE (eCall f_is_whole (aCons (pE (eC (.bl true))) aNil))) (pE (eC (.bl false))))) (tOr3 (tE (eOp (oIsB true) (pE (eCall f_is_whole (aCons (pV 3) aNil))) (pE (eC (.bl false))))) (tE (eOp (oIsB true) (pE (eCall f_is_whole (aCons (kJ 0) aNil))) (pE (eC (.bl true)))))))) (sRet (eC (.bl false))) sSkip) (sSeq (sSet 4 (eCall f_law_odd (aCons (pE (eCall f_law_mixed (aCons (pE (eCall f_law_cell_at (aCons (pV 0) (aCons (kJ 12) aNil)))) (aCons (kJ 3) aNil)))) (aCons (kJ 1) (aCons (kJ 16) aNil))))) (sSeq (sIf (tE (eOp z9 (pV 1) (kJ 3))) (sSeq (sSet 5 (eOp zD (pE (eLst (aCons (pE (eCall f_law_odd (aCons (pE (eCall f_law_mixed (aCons (pE (eCall f_law_cell_at (aCons (pV 0) (aCons (kJ 13) aNil)))) (aCons (kJ 4) aNil)))) (aCons (kJ 0) (aCons (kJ 200) aNil))))) (aCons (kJ 5) aNil)))) (pE (eOp zx (pE (eCall f_law_cell_at (aCons (pV 0) (aCons (kJ 14) aNil)))) (kJ 2))))) (sSeq (sFz 4) (sSeq (sSet 6 (eOp zD (pE (eLst (aCons (kJ 3) (aCons (pV 4) aNil)))) (pE (eOp zx (pE (eCall f_law_cell_at (aCons (pV 0) (aCons (kJ 14) aNil)))) (kJ 2))))) (sSeq (sIf (tOr3 (tE (eOp (oIsN true) (pE (eCall f_law_refusal (aCons (pV 1) (aCons (kJ 0) (aCons (kJ 1) aNil))))) (pE (eC .non)))) (tE (eOp (oIsN true) (pE (eCall f_law_refusal (aCons (pV 1) (aCons (kJ 200) (aCons (kJ 16) aNil))))) (pE (eC .non))))) (sRet (eC (.bl false))) sSkip) (sSeq (sSet 7 (eCall f_law_refusal (aCons (pV 1) (aCons (pV 5) (aCons (pV 6) aNil))))) (sSeq (sFz 7) (sRet (eAnd (eOp (oIsN true) (pV 7) (pE (eC .non))) (eOp z9 (pE (eCall f_law_kinds (aCons (pV 7) aNil))) (pE (eCall f_law_due (aCons (pV 2) aNil)))))))))))) sSkip) (sSeq (sAsg (gL (gsCons (gN 8) (gsCons (gN 9) (gsCons (gN 10) gsNil)))) (eCall f_law_lists (aCons (pV 1) (aCons (pV 0) aNil)))) (sSeq (sIf (tE (eOp z9 (pV 1) (kJ 2))) (sSeq (sFz 4) (sSeq (sSet 7 (eCall f_law_refusal (aCons (pV 1) (aCons (pV 8) (aCons (pV 4) aNil))))) (sSeq (sFz 7) (sIf (tOr3 (tE (eOp (oIsN false) (pV 7) (pE (eC .non)))) (tE (eOp yO (pE (eCall f_law_kinds (aCons (pV 7) aNil))) (pE (eCall f_law_due (aCons (pV 2) aNil)))))) (sRet (eC (.bl false))) sSkip)))) sSkip) (sSeq Hf (sSeq (sSet 12 (eB bList (aCons (pV 8) aNil))) (sSeq (sIf (tE (eOp (oIsN true) (pE (eCall f_law_refusal (aCons (pV 1) (aCons (pE (eOp zY (pE (eLst (aCons (pE (eOp zD (pV 8) (kJ 0))) aNil))) (pE (eB bLen (aCons (pV 10) aNil))))) (aCons (kJ 16) aNil))))) (pE (eC .non)))) (sRet (eC (.bl false))) sSkip) (sRet (eAnd (eOp (oIsN false) (pE (eCall f_law_refusal (aCons (pV 1) (aCons (pV 8) (aCons (kJ 1) aNil))))) (pE (eC .non))) (eAnd (eOp (oIsN false) (pE (eCall f_law_refusal (aCons (pV 1) (aCons (pV 10) (aCons (kJ 16) aNil))))) (pE (eC .non))) (eOp z9 (pV 8) (pV 12)))))))))))))))))
def f_law:F3:=fun3 1 13 IT
end My
namespace My
open PySem PySem.Spec PyProof.Rows L2 L3
noncomputable def zZ (i:Nat):Stmt:=PySem.Challenge.pw_dueyard_k06_refused_turns_and_calendars.main.body.getD i (.Pass ⟨0,0,0,0⟩)
abbrev L6:Stmt:=zZ 47
def sc_law_odd:FnScope ["_law_number","_law_low","_law_high","_law_far"] ["_law_number","_law_low","_law_high"] (zC L6):=⟨rfl,rfl,rfl,by decide+kernel,rfl,by decide+kernel,by decide+kernel⟩
abbrev LA:Stmt:=zZ 40
def RG:FnScope ["_law_cell","_law_k"] ["_law_cell","_law_k"] (zC LA):=⟨rfl,rfl,rfl,by decide+kernel,rfl,by decide+kernel,by decide+kernel⟩
abbrev LB:Stmt:=zZ 48
def sc_law_bad:FnScope ["_law_way","_law_number","_law_cell","_law_odd_here"] ["_law_way","_law_number"] (zC LB):=⟨rfl,rfl,rfl,by decide+kernel,rfl,by decide+kernel,by decide+kernel⟩
abbrev LC:Stmt:=zZ 39
def RH:FnScope ["_law_script","_law_k"] ["_law_script","_law_k"] (zC LC):=⟨rfl,rfl,rfl,by decide+kernel,rfl,by decide+kernel,by decide+kernel⟩
abbrev LD:Stmt:=zZ 46
def RI:FnScope ["_law_way","_law_number"] ["_law_way","_law_number"] (zC LD):=⟨rfl,rfl,rfl,by decide+kernel,rfl,by decide+kernel,by decide+kernel⟩
abbrev FN:Stmt:=zZ 49
def sc_law_lists:FnScope ["_law_way","_law_script","_law_number","_law_some","_law_at","_law_bad_here","_law_most","_law_lists_here"] ["_law_way","_law_script"] (zC FN):=⟨rfl,rfl,rfl,by decide+kernel,rfl,by decide+kernel,by decide+kernel⟩
abbrev LF:Stmt:=zZ 22
def sc_merged:FnScope ["rows","spans","first","last"] ["rows"] (zC LF):=⟨rfl,rfl,rfl,by decide+kernel,rfl,by decide+kernel,by decide+kernel⟩
abbrev LG:Stmt:=zZ 21
def RJ:FnScope ["thing"] ["thing"] (zC LG):=⟨rfl,rfl,rfl,by decide+kernel,rfl,by decide+kernel,by decide+kernel⟩
abbrev LH:Stmt:=zZ 17
def RK:FnScope ["thing"] ["thing"] (zC LH):=⟨rfl,rfl,rfl,by decide+kernel,rfl,by decide+kernel,by decide+kernel⟩
abbrev LI:Stmt:=zZ 18
def RL:FnScope ["thing","low","high"] ["thing","low","high"] (zC LI):=⟨rfl,rfl,rfl,by decide+kernel,rfl,by decide+kernel,by decide+kernel⟩
abbrev LJ:Stmt:=zZ 19
def RM:FnScope ["thing"] ["thing"] (zC LJ):=⟨rfl,rfl,rfl,by decide+kernel,rfl,by decide+kernel,by decide+kernel⟩
abbrev LK:Stmt:=zZ 20
def RN:FnScope ["thing"] ["thing"] (zC LK):=⟨rfl,rfl,rfl,by decide+kernel,rfl,by decide+kernel,by decide+kernel⟩
abbrev IU:Stmt:=zZ 23
def RO:FnScope ["rows"] ["rows"] (zC IU):=⟨rfl,rfl,rfl,by decide+kernel,rfl,by decide+kernel,by decide+kernel⟩
abbrev Hg:Stmt:=zZ 24
def RQ:FnScope ["turns"] ["turns"] (zC Hg):=⟨rfl,rfl,rfl,by decide+kernel,rfl,by decide+kernel,by decide+kernel⟩
abbrev LL:Stmt:=zZ 34
def sc_neighbours_as_one:FnScope ["rows","told","many","machines"] ["rows"] (zC LL):=⟨rfl,rfl,rfl,by decide+kernel,rfl,by decide+kernel,by decide+kernel⟩
abbrev LM:Stmt:=zZ 35
def sc_kept_rows:FnScope ["rows","rest","told"] ["rows","rest"] (zC LM):=⟨rfl,rfl,rfl,by decide+kernel,rfl,by decide+kernel,by decide+kernel⟩
abbrev LN:Stmt:=zZ 30
def RS:FnScope ["thing"] ["thing"] (zC LN):=⟨rfl,rfl,rfl,by decide+kernel,rfl,by decide+kernel,by decide+kernel⟩
abbrev LO:Stmt:=zZ 32
def RT:FnScope ["thing"] ["thing"] (zC LO):=⟨rfl,rfl,rfl,by decide+kernel,rfl,by decide+kernel,by decide+kernel⟩
abbrev IV:Stmt:=zZ 33
def RU:FnScope ["thing"] ["thing"] (zC IV):=⟨rfl,rfl,rfl,by decide+kernel,rfl,by decide+kernel,by decide+kernel⟩
abbrev LP:Stmt:=zZ 31
def RV:FnScope ["thing"] ["thing"] (zC LP):=⟨rfl,rfl,rfl,by decide+kernel,rfl,by decide+kernel,by decide+kernel⟩
abbrev LQ:Stmt:=AJ (zZ 36) 0
def RW:FnScope ["self","rows","rest"] ["self","rows","rest"] (zC LQ):=⟨rfl,rfl,rfl,by decide+kernel,rfl,by decide+kernel,by decide+kernel⟩
abbrev LR:Stmt:=zZ 37
def sc_calendar_of:FnScope ["tell","turns","rest","rows","turn","machines"] ["tell","turns","rest"] (zC LR):=⟨rfl,rfl,rfl,by decide+kernel,rfl,by decide+kernel,by decide+kernel⟩
abbrev IW:Stmt:=zZ 44
def RX:FnScope ["_law_way","_law_some","_law_rest"] ["_law_way","_law_some","_law_rest"] (zC IW):=⟨rfl,rfl,rfl,by decide+kernel,rfl,by decide+kernel,by decide+kernel⟩
abbrev LU:Stmt:=zZ 45
def sc_law_refusal:FnScope ["_law_way","_law_some","_law_rest","_law_found","_law_e"] ["_law_way","_law_some","_law_rest"] (zC LU):=⟨rfl,rfl,rfl,by decide+kernel,rfl,by decide+kernel,by decide+kernel⟩
abbrev LV:Stmt:=zZ 41
def sc_law_kinds:FnScope ["_law_e","_law_found"] ["_law_e"] (zC LV):=⟨rfl,rfl,rfl,by decide+kernel,rfl,by decide+kernel,by decide+kernel⟩
abbrev IY:Stmt:=zZ 42
def RY:FnScope ["_law_at"] ["_law_at"] (zC IY):=⟨rfl,rfl,rfl,by decide+kernel,rfl,by decide+kernel,by decide+kernel⟩
abbrev LW:Stmt:=zZ 43
def sc_law_errors:FnScope ["_law_name","_law_some","_law_k","_law_one"] ["_law_name"] (zC LW):=⟨rfl,rfl,rfl,by decide+kernel,rfl,by decide+kernel,by decide+kernel⟩
abbrev LX:Stmt:=zZ 50
def sc_law:FnScope ["_law_script","_law_way","_law_kind","_law_name","_law_odd_here","_law_turns","_law_rest","_law_found","_law_some","_law_lists_here","_law_most","_law_handed","_law_kept"] ["_law_script"] (zC LX):=⟨rfl,rfl,rfl,by decide+kernel,rfl,by decide+kernel,by decide+kernel⟩
abbrev LY:Stmt:=AJ (zZ 10) 0
def RZ:FnScope ["self","name"] ["self","name"] (zC LY):=⟨rfl,rfl,rfl,by decide+kernel,rfl,by decide+kernel,by decide+kernel⟩
abbrev LZ:Stmt:=AJ (zZ 11) 0
def Sa:FnScope ["self","name"] ["self","name"] (zC LZ):=⟨rfl,rfl,rfl,by decide+kernel,rfl,by decide+kernel,by decide+kernel⟩
abbrev Ma:Stmt:=AJ (zZ 12) 0
def Sb:FnScope ["self","name"] ["self","name"] (zC Ma):=⟨rfl,rfl,rfl,by decide+kernel,rfl,by decide+kernel,by decide+kernel⟩
abbrev Mb:Stmt:=AJ (zZ 13) 0
def Sf:FnScope ["self","name"] ["self","name"] (zC Mb):=⟨rfl,rfl,rfl,by decide+kernel,rfl,by decide+kernel,by decide+kernel⟩
def lamX:Option (Arguments×Expr×Scope×Pos):=match qH IW with
 | [.If _ _ [.If _ _ [.If _ _ [.Expr (.Call _ (.Lambda a b s p::_) _ _) _] _] _] _]=>some (a,b,s,p)
 |_=>none
def Hh:lamX.isSome=true:=by kernel_rfl
abbrev laA:Arguments:=(lamX.get Hh).1
abbrev laB:Expr:=(lamX.get Hh).2.1
abbrev laS:Scope:=(lamX.get Hh).2.2.1
abbrev laP:Pos:=(lamX.get Hh).2.2.2
def laK:Pos:=match laB with
 |.Constant _ _ p=>p
 |_=>laP
def Sg:laB= .Constant (.int 3) 0 laK:=by kernel_rfl
noncomputable abbrev qLam:Str:=("_law_asked" :Str)++(".<locals>." :Str)++("<lambda>" :Str)
abbrev Mc (mg:Str->Option Value) (c:Addr) (ctv:Value):Obj:=PySem.W.kla_obj "<lambda>" qLam laA laB laS [] ((mg "__name__").getD .none) c ctv
def Sh:CloScope ["_law_turn"] ["_law_turn"] [] laS:=⟨by kernel_rfl,by kernel_rfl,by kernel_rfl,by decide+kernel,rfl,by decide+kernel,by decide+kernel,by decide+kernel,by decide+kernel⟩
def Si {q:Str} {pm:Value} {b:Expr} (c:Addr) (ctv:Value) (s:Shared) (us:List Value) (hl:us.length=["_law_turn"].length):BindsTo s (PySem.W.kla_fn "<lambda>" q laA b laS [] pm (.ref c) ctv) ⟨us,[]⟩ ((["_law_turn"]:List Str).zip us):=match us,hl with
 | [_],_=>.of_eq rfl
def Sj (c':Addr):TriplesOk (#[]++ #[rawInt laP.line,rawInt laP.col,Value.ref c']).toList:=by trivial
def Sk (c':Addr):codeAmong laP (#[]++ #[rawInt laP.line,rawInt laP.col,Value.ref c']).toList=some (Value.ref c'):=by kernel_rfl
set_option genInjectivity false in
structure Txt (K:FG) (mg:Str->Option Value) where
 f_law_odd:Addr
 fd_law_odd:FuncData
 d_law_odd:Dfn K mg "_law_odd" L6 ["_law_number","_law_low","_law_high"] f_law_odd fd_law_odd
 f_law_mixed:Addr
 fd_law_mixed:FuncData
 d_law_mixed:Dfn K mg "_law_mixed" LA ["_law_cell","_law_k"] f_law_mixed fd_law_mixed
 f_law_bad:Addr
 fd_law_bad:FuncData
 d_law_bad:Dfn K mg "_law_bad" LB ["_law_way","_law_number"] f_law_bad fd_law_bad
 f_law_cell_at:Addr
 fd_law_cell_at:FuncData
 d_law_cell_at:Dfn K mg "_law_cell_at" LC ["_law_script","_law_k"] f_law_cell_at fd_law_cell_at
 f_law_good:Addr
 fd_law_good:FuncData
 d_law_good:Dfn K mg "_law_good" LD ["_law_way","_law_number"] f_law_good fd_law_good
 f_law_lists:Addr
 fd_law_lists:FuncData
 d_law_lists:Dfn K mg "_law_lists" FN ["_law_way","_law_script"] f_law_lists fd_law_lists
 f_merged:Addr
 fd_merged:FuncData
 d_merged:Dfn K mg "merged" LF ["rows"] f_merged fd_merged
 f_is_short_list:Addr
 fd_is_short_list:FuncData
 d_is_short_list:Dfn K mg "is_short_list" LG ["thing"] f_is_short_list fd_is_short_list
 f_is_whole:Addr
 fd_is_whole:FuncData
 d_is_whole:Dfn K mg "is_whole" LH ["thing"] f_is_whole fd_is_whole
 f_is_whole_between:Addr
 fd_is_whole_between:FuncData
 d_is_whole_between:Dfn K mg "is_whole_between" LI ["thing","low","high"] f_is_whole_between fd_is_whole_between
 f_is_turn:Addr
 fd_is_turn:FuncData
 d_is_turn:Dfn K mg "is_turn" LJ ["thing"] f_is_turn fd_is_turn
 f_is_row:Addr
 fd_is_row:FuncData
 d_is_row:Dfn K mg "is_row" LK ["thing"] f_is_row fd_is_row
 f_tidy:Addr
 fd_tidy:FuncData
 d_tidy:Dfn K mg "tidy" IU ["rows"] f_tidy fd_tidy
 f_spans_of:Addr
 fd_spans_of:FuncData
 d_spans_of:Dfn K mg "spans_of" Hg ["turns"] f_spans_of fd_spans_of
 f_neighbours_as_one:Addr
 fd_neighbours_as_one:FuncData
 d_neighbours_as_one:Dfn K mg "neighbours_as_one" LL ["rows"] f_neighbours_as_one fd_neighbours_as_one
 f_kept_rows:Addr
 fd_kept_rows:FuncData
 d_kept_rows:Dfn K mg "kept_rows" LM ["rows","rest"] f_kept_rows fd_kept_rows
 f_is_machines:Addr
 fd_is_machines:FuncData
 d_is_machines:Dfn K mg "is_machines" LN ["thing"] f_is_machines fd_is_machines
 f_is_calendar_row:Addr
 fd_is_calendar_row:FuncData
 d_is_calendar_row:Dfn K mg "is_calendar_row" LO ["thing"] f_is_calendar_row fd_is_calendar_row
 f_are_calendar_rows:Addr
 fd_are_calendar_rows:FuncData
 d_are_calendar_rows:Dfn K mg "are_calendar_rows" IV ["thing"] f_are_calendar_rows fd_are_calendar_rows
 f_is_rest:Addr
 fd_is_rest:FuncData
 d_is_rest:Dfn K mg "is_rest" LP ["thing"] f_is_rest fd_is_rest
 f_calendar_of:Addr
 fd_calendar_of:FuncData
 d_calendar_of:Dfn K mg "calendar_of" LR ["tell","turns","rest"] f_calendar_of fd_calendar_of
 f_law_asked:Addr
 fd_law_asked:FuncData
 d_law_asked:Dfn K mg "_law_asked" IW ["_law_way","_law_some","_law_rest"] f_law_asked fd_law_asked
 f_law_refusal:Addr
 fd_law_refusal:FuncData
 d_law_refusal:Dfn K mg "_law_refusal" LU ["_law_way","_law_some","_law_rest"] f_law_refusal fd_law_refusal
 f_law_kinds:Addr
 fd_law_kinds:FuncData
 d_law_kinds:Dfn K mg "_law_kinds" LV ["_law_e"] f_law_kinds fd_law_kinds
 f_law_due:Addr
 fd_law_due:FuncData
 d_law_due:Dfn K mg "_law_due" IY ["_law_at"] f_law_due fd_law_due
 f_law_errors:Addr
 fd_law_errors:FuncData
 d_law_errors:Dfn K mg "_law_errors" LW ["_law_name"] f_law_errors fd_law_errors
 f_law:Addr
 fd_law:FuncData
 d_law:Dfn K mg "law" LX ["_law_script"] f_law fd_law
 C_Calendar:Addr
 cl_Calendar:Cls K C_Calendar
 g_Calendar:mg "Calendar" =some (.ref C_Calendar)
 f_Calendar_init:Addr
 fd_Calendar_init:FuncData
 d_Calendar_init:DfnM K "__init__" "Calendar.__init__" LQ ["self","rows","rest"] f_Calendar_init fd_Calendar_init
 M_Calendar:Mk K C_Calendar f_Calendar_init
 na_Calendar_stretches:NoAttr K C_Calendar "stretches"
 na_Calendar_beyond:NoAttr K C_Calendar "beyond"
 C_YardError:Addr
 g_YardError:mg "YardError" =some (.ref C_YardError)
 C_NoName:Addr
 g_NoName:mg "NoName" =some (.ref C_NoName)
 C_NoNumber:Addr
 g_NoNumber:mg "NoNumber" =some (.ref C_NoNumber)
 C_NoCalendar:Addr
 g_NoCalendar:mg "NoCalendar" =some (.ref C_NoCalendar)
 C_NoSpans:Addr
 g_NoSpans:mg "NoSpans" =some (.ref C_NoSpans)
 C_TooMany:Addr
 g_TooMany:mg "TooMany" =some (.ref C_TooMany)
 C_NoPlan:Addr
 g_NoPlan:mg "NoPlan" =some (.ref C_NoPlan)
 C_NoLine:Addr
 g_NoLine:mg "NoLine" =some (.ref C_NoLine)
 C_Twice:Addr
 g_Twice:mg "Twice" =some (.ref C_Twice)
 C_Taken:Addr
 g_Taken:mg "Taken" =some (.ref C_Taken)
 C_NoJob:Addr
 g_NoJob:mg "NoJob" =some (.ref C_NoJob)
 C_TooLong:Addr
 g_TooLong:mg "TooLong" =some (.ref C_TooLong)
 x_NoName:XCl K mg "NoName" C_NoName
 z_NoName:ExK K C_NoName
 kp_NoName:PySem.W.keepIn K (.ref C_NoName)=true
 x_NoNumber:XCl K mg "NoNumber" C_NoNumber
 z_NoNumber:ExK K C_NoNumber
 kp_NoNumber:PySem.W.keepIn K (.ref C_NoNumber)=true
 x_NoCalendar:XCl K mg "NoCalendar" C_NoCalendar
 z_NoCalendar:ExK K C_NoCalendar
 kp_NoCalendar:PySem.W.keepIn K (.ref C_NoCalendar)=true
 x_NoSpans:XCl K mg "NoSpans" C_NoSpans
 z_NoSpans:ExK K C_NoSpans
 kp_NoSpans:PySem.W.keepIn K (.ref C_NoSpans)=true
 x_TooMany:XCl K mg "TooMany" C_TooMany
 z_TooMany:ExK K C_TooMany
 kp_TooMany:PySem.W.keepIn K (.ref C_TooMany)=true
 x_NoPlan:XCl K mg "NoPlan" C_NoPlan
 z_NoPlan:ExK K C_NoPlan
 kp_NoPlan:PySem.W.keepIn K (.ref C_NoPlan)=true
 x_NoLine:XCl K mg "NoLine" C_NoLine
 z_NoLine:ExK K C_NoLine
 kp_NoLine:PySem.W.keepIn K (.ref C_NoLine)=true
 f_xi_Twice:Addr
 fd_xi_Twice:FuncData
 xi_Twice:XI K C_Twice f_xi_Twice
 cb_Twice:CB K C_YardError
 F_xi_Twice:Fun K "__init__" "Twice.__init__" LY f_xi_Twice fd_xi_Twice
 b_Twice:Binds K fd_xi_Twice ["self","name"] []
 f_xi_Taken:Addr
 fd_xi_Taken:FuncData
 xi_Taken:XI K C_Taken f_xi_Taken
 cb_Taken:CB K C_YardError
 F_xi_Taken:Fun K "__init__" "Taken.__init__" LZ f_xi_Taken fd_xi_Taken
 b_Taken:Binds K fd_xi_Taken ["self","name"] []
 f_xi_NoJob:Addr
 fd_xi_NoJob:FuncData
 xi_NoJob:XI K C_NoJob f_xi_NoJob
 cb_NoJob:CB K C_YardError
 F_xi_NoJob:Fun K "__init__" "NoJob.__init__" Ma f_xi_NoJob fd_xi_NoJob
 b_NoJob:Binds K fd_xi_NoJob ["self","name"] []
 f_xi_TooLong:Addr
 fd_xi_TooLong:FuncData
 xi_TooLong:XI K C_TooLong f_xi_TooLong
 cb_TooLong:CB K C_YardError
 F_xi_TooLong:Fun K "__init__" "TooLong.__init__" Mb f_xi_TooLong fd_xi_TooLong
 b_TooLong:Binds K fd_xi_TooLong ["self","name"] []
 tab:Tb K mg zJ
 n_ValueError:mg "ValueError" =none
 n_all:mg "all" =none
 n_bool:mg "bool" =none
 n_enumerate:mg "enumerate" =none
 n_int:mg "int" =none
 n_isinstance:mg "isinstance" =none
 n_len:mg "len" =none
 n_list:mg "list" =none
 n_max:mg "max" =none
 n_range:mg "range" =none
 n_sorted:mg "sorted" =none
 n_str:mg "str" =none
 n_tuple:mg "tuple" =none
 t_MOST_HANDED_IN:Tok
 c_MOST_HANDED_IN:mg "MOST_HANDED_IN" =some (.int 200 t_MOST_HANDED_IN)
 t_LAST_TURN:Tok
 c_LAST_TURN:mg "LAST_TURN" =some (.int 10000000000 t_LAST_TURN)
 t_MOST_ROWS:Tok
 c_MOST_ROWS:mg "MOST_ROWS" =some (.int 16 t_MOST_ROWS)
 t_MOST_TURNS_OF_ROW:Tok
 c_MOST_TURNS_OF_ROW:mg "MOST_TURNS_OF_ROW" =some (.int 1000000 t_MOST_TURNS_OF_ROW)
 t_MOST_MACHINES:Tok
 c_MOST_MACHINES:mg "MOST_MACHINES" =some (.int 16 t_MOST_MACHINES)
 t_MOST_TURNS_ASKED:Tok
 c_MOST_TURNS_ASKED:mg "MOST_TURNS_ASKED" =some (.int 200 t_MOST_TURNS_ASKED)
 tcd:Addr
 ttb:Addr
 q_code:fd_law_asked.code=.ref tcd
def kx {K:FG} {mg:Str->Option Value} (T:Txt K mg):Kx:=⟨K,fun c=>([(("Calendar" :Str),T.C_Calendar),(("YardError" :Str),T.C_YardError),(("NoName" :Str),T.C_NoName),(("NoNumber" :Str),T.C_NoNumber),(("NoCalendar" :Str),T.C_NoCalendar),(("NoSpans" :Str),T.C_NoSpans),(("TooMany" :Str),T.C_TooMany),(("NoPlan" :Str),T.C_NoPlan),(("NoLine" :Str),T.C_NoLine),(("Twice" :Str),T.C_Twice),(("Taken" :Str),T.C_Taken),(("NoJob" :Str),T.C_NoJob),(("TooLong" :Str),T.C_TooLong)]:List (Str×Addr)).lookup c,T.ttb,none,fun c f u v=> ∃ctv,u=yK f (Mc mg c ctv)/\v=yU c qLam,fun c t v=>t=.tbl (#[]++ #[rawInt laP.line,rawInt laP.col,Value.ref c])/\v=yU c qLam⟩
def qk {K:FG} {mg:Str->Option Value} (T:Txt K mg):MtL (kx T) zJ:=MtL.of (K:=K) (mg:=mg) (zs:=[("NoName" :Str),("NoNumber" :Str),("NoCalendar" :Str),("NoSpans" :Str),("TooMany" :Str),("NoPlan" :Str),("NoLine" :Str),("Twice" :Str),("Taken" :Str),("NoJob" :Str),("TooLong" :Str)]) rfl rfl (HG.cons T.g_Calendar (HG.cons T.g_YardError (HG.cons T.g_NoName (HG.cons T.g_NoNumber (HG.cons T.g_NoCalendar (HG.cons T.g_NoSpans (HG.cons T.g_TooMany (HG.cons T.g_NoPlan (HG.cons T.g_NoLine (HG.cons T.g_Twice (HG.cons T.g_Taken (HG.cons T.g_NoJob (HG.cons T.g_TooLong HG.nil))))))))))))) (HZ.cons T.g_NoName T.z_NoName (HZ.cons T.g_NoNumber T.z_NoNumber (HZ.cons T.g_NoCalendar T.z_NoCalendar (HZ.cons T.g_NoSpans T.z_NoSpans (HZ.cons T.g_TooMany T.z_TooMany (HZ.cons T.g_NoPlan T.z_NoPlan (HZ.cons T.g_NoLine T.z_NoLine (HZ.cons T.g_Twice T.xi_Twice.toExN.toExK (HZ.cons T.g_Taken T.xi_Taken.toExN.toExK (HZ.cons T.g_NoJob T.xi_NoJob.toExN.toExK (HZ.cons T.g_TooLong T.xi_TooLong.toExN.toExK HZ.nil))))))))))) T.tab (by kernel_rfl)
def lamk {K:FG} {mg:Str->Option Value} (T:Txt K mg):LamK (kx T) qLam laP (Mc mg):=⟨fun c f ctv=>⟨ctv,rfl,rfl⟩,fun c f u v h=>h,fun c=>⟨rfl,rfl⟩,fun c t v h=>h⟩
def Sl {K:FG} {mg:Str->Option Value} (T:Txt K mg):∀c f u v,(kx T).lm c f u v->∃ctv,u=yK f (PySem.W.kla_obj "<lambda>" qLam laA (.Constant (.int 3) 0 laK) laS [] ((mg "__name__").getD .none) c ctv)/\v=yU c qLam:=fun c f u v h=>by rw[<-Sg];exact h
def Sm {K:FG} {mg:Str->Option Value} (T:Txt K mg):∀c∈([("Twice" :Str),("Taken" :Str),("NoJob" :Str),("TooLong" :Str)]:List Str),∀C,(kx T).cl c=some C->ExN K C:=by
 intro c hc C h
 rcases Ag.mp hc with rfl|hc
 .have e:T.C_Twice=C:=Option.some.inj h
  subst e;exact T.xi_Twice.toExN
 rcases Ag.mp hc with rfl|hc
 .have e:T.C_Taken=C:=Option.some.inj h
  subst e;exact T.xi_Taken.toExN
 rcases Ag.mp hc with rfl|hc
 .have e:T.C_NoJob=C:=Option.some.inj h
  subst e;exact T.xi_NoJob.toExN
 rcases Ag.mp hc with rfl|hc
 .have e:T.C_TooLong=C:=Option.some.inj h
  subst e;exact T.xi_TooLong.toExN
 cases hc
section
variable {P:Program} {w:World} {K:FG} {mg:Str->Option Value} {base:Heap}
def Sn (T:Txt K mg):FnOk P w K mg base (XT P w) 1 T.f_xi_Twice T.fd_xi_Twice ["self","name"] (CG T.C_Twice):=Iu (k:=0) (w0:=("two jobs have the name " :Str)) T.xi_Twice T.F_xi_Twice RZ (by decide+kernel) fun cdv A outer s H E hr=>(DM (AS (GM T.cb_Twice (by rfl) T.g_YardError (AI (yS (i:=0) rfl (Or.inl rfl)) (AI (Ir CJ (GL (yS (i:=1) rfl (Or.inl rfl)))) DS)))) (CK (GN (yS (i:=0) rfl (Or.inl rfl)) (yS (i:=1) rfl (Or.inl rfl)))))
def So (T:Txt K mg):FnOk P w K mg base (XT P w) 1 T.f_xi_Taken T.fd_xi_Taken ["self","name"] (CG T.C_Taken):=Iu (k:=0) (w0:=("the yard has an entry of the name " :Str)) T.xi_Taken T.F_xi_Taken Sa (by decide+kernel) fun cdv A outer s H E hr=>(DM (AS (GM T.cb_Taken (by rfl) T.g_YardError (AI (yS (i:=0) rfl (Or.inl rfl)) (AI (Ir CJ (GL (yS (i:=1) rfl (Or.inl rfl)))) DS)))) (CK (GN (yS (i:=0) rfl (Or.inl rfl)) (yS (i:=1) rfl (Or.inl rfl)))))
def Sq (T:Txt K mg):FnOk P w K mg base (XT P w) 1 T.f_xi_NoJob T.fd_xi_NoJob ["self","name"] (CG T.C_NoJob):=Iu (k:=0) (w0:=("there is no job of the name " :Str)) T.xi_NoJob T.F_xi_NoJob Sb (by decide+kernel) fun cdv A outer s H E hr=>(DM (AS (GM T.cb_NoJob (by rfl) T.g_YardError (AI (yS (i:=0) rfl (Or.inl rfl)) (AI (Ir CJ (GL (yS (i:=1) rfl (Or.inl rfl)))) DS)))) (CK (GN (yS (i:=0) rfl (Or.inl rfl)) (yS (i:=1) rfl (Or.inl rfl)))))
def Sr (T:Txt K mg):FnOk P w K mg base (XT P w) 1 T.f_xi_TooLong T.fd_xi_TooLong ["self","name"] (CG T.C_TooLong):=Rn (k:=0) (w2:=(" is too short for its work" :Str)) (w0:=("the window of " :Str)) T.xi_TooLong T.F_xi_TooLong Sf (by decide+kernel) (by decide+kernel) fun cdv A outer s H E hr=>(DM (AS (GM T.cb_TooLong (by rfl) T.g_YardError (AI (yS (i:=0) rfl (Or.inl rfl)) (AI (Q0 CJ (GL (yS (i:=1) rfl (Or.inl rfl))) CJ) DS)))) (CK (GN (yS (i:=0) rfl (Or.inl rfl)) (yS (i:=1) rfl (Or.inl rfl)))))
def DH (T:Txt K mg):FnOk P w K mg base (XT P w) 1 T.f_law_odd T.fd_law_odd ["_law_number","_law_low","_law_high"] (zm (kx T) 3 f_law_odd):=yo T.d_law_odd.F sc_law_odd fun cdv A outer s H E hr=>by unfold Iv;exact (zA (ye (i:=3) sc_law_odd.nd rfl (Or.inl rfl) (zo BS BR (zb (pv 0)) (za (zo qF qv (za zg) (za zg))))) (zr (zS (zu z4 (z5 rfl) (fun _ _=>rfl) (za (yj (zc (za (zo GB Gk (zb (pv 1)) (za zg))) (zc (za (zo yw yx (zb (pv 2)) (za zg))) (zc (za (zo GB Gk (za (zo GB Gk (zb (pv 1)) (za zg))) (zb (pv 3)))) (zc (za (zo yw yx (za (zo yw yx (zb (pv 2)) (za zg))) (zb (pv 3)))) (zc (za zW) (zc (za qx) (zc (za y8) (zc (za (yj (zc (zb (pv 1)) zf))) (zc (za (yH (zc (zb (pv 1)) zf))) (zc (za zW) zf)))))))))))) (za (zo yE yz (zb (pv 0)) (za zg)))))))
def FO (T:Txt K mg):FnOk P w K mg base (XT P w) 1 T.f_law_mixed T.fd_law_mixed ["_law_cell","_law_k"] (zm (kx T) 2 f_law_mixed):=yo T.d_law_mixed.F RG fun cdv A outer s H E hr=>by unfold Iw;exact (zr (zS (zo yE yz (za (zo yw yx (za (zo BS BR (za (zo yE yz (zb (pv 0)) (za zg))) (za zg))) (za (zo BS BR (za zg) (zb (pv 1)))))) (za zg))))
def Ss (T:Txt K mg):FnOk P w K mg base (XT P w) 2 T.f_law_bad T.fd_law_bad ["_law_way","_law_number"] (zm (kx T) 2 f_law_bad):=yo T.d_law_bad.F sc_law_bad fun cdv A outer s H E hr=>by
 unfold AE
 refine zA ?_ ?_
 .refine yc ?_ ?_ ?_
  .exact (z8 yW (yX (yv hr)) (zT _) (zb (pv 0)) (za zg))
  .refine zr ?_
   refine zS ?_
   exact (zp DA (DH T) (hr.mono (by decide)) (by rfl) T.d_law_odd.g T.d_law_odd.F.kp T.d_law_odd.b zv (zc (zb (pv 1)) (zc (za zg) (zc (za (zo qF qv (za zg) (za zg))) zf))))
  .exact yt
 .refine zA ?_ ?_
  .exact (ye (i:=2) sc_law_bad.nd rfl (Or.inl rfl) (zo GC Gm (zb (pv 1)) (za zg)))
  .refine zA ?_ ?_
   .refine yc ?_ ?_ ?_
    .exact (z8 yW (yX (yv hr)) (zT _) (za (zo yE yz (zb (pv 1)) (za zg))) (za zg))
    .refine zr ?_
     refine zS ?_
     with_reducible refine zu z4 ?_ ?_ ?_ ?_
     .exact (z5 rfl)
     .exact (fun _ _=>rfl)
     .with_reducible refine za ?_
      with_reducible refine yj ?_
      with_reducible refine zL ?_ ?_ ?_
      .with_reducible refine za ?_
       with_reducible refine yj ?_
       with_reducible refine zL ?_ ?_ ?_
       .exact (za zg)
       rotate_left
       .rfl
       with_reducible refine zL ?_ ?_ ?_
       .exact (za zg)
       rotate_left
       .rfl
       exact zf
      rotate_left
      .rfl
      with_reducible refine zL ?_ ?_ ?_
      .with_reducible refine za ?_
       with_reducible refine yH ?_
       with_reducible refine zL ?_ ?_ ?_
       .exact (za zg)
       rotate_left
       .rfl
       exact zf
      rotate_left
      .rfl
      with_reducible refine zL ?_ ?_ ?_
      .with_reducible refine za ?_
       with_reducible refine yH ?_
       with_reducible refine zL ?_ ?_ ?_
       .exact (za zg)
       rotate_left
       .rfl
       with_reducible refine zL ?_ ?_ ?_
       .exact (za zg)
       rotate_left
       .rfl
       with_reducible refine zL ?_ ?_ ?_
       .exact (za zg)
       rotate_left
       .rfl
       exact zf
      rotate_left
      .rfl
      with_reducible refine zL ?_ ?_ ?_
      .exact (za zg)
      rotate_left
      .rfl
      with_reducible refine zL ?_ ?_ ?_
      .exact (za qx)
      rotate_left
      .rfl
      with_reducible refine zL ?_ ?_ ?_
      .exact (za y8)
      rotate_left
      .rfl
      with_reducible refine zL ?_ ?_ ?_
      .exact (za Lm)
      rotate_left
      .rfl
      with_reducible refine zL ?_ ?_ ?_
      .exact (za (yH zf))
      rotate_left
      .rfl
      exact zf
     .exact (za (zo yE yz (za (zo GC Gm (zb (pv 1)) (za zg))) (za zg)))
    .exact yt
   .refine zA ?_ ?_
    .refine yc ?_ ?_ ?_
     .exact (PW.pt (G2 (z8 yW (yX (yv hr)) (zT _) (zb (pv 0)) (za zg)) (G1 (z8 yW (yX (yv hr)) (zT _) (za (zo yE yz (zb (pv 1)) (za zg))) (za zg)))))
     .refine zr ?_
      refine zS ?_
      with_reducible refine yH ?_
      with_reducible refine zL ?_ ?_ ?_
      .exact (za (zo yw yx (za zg) (za (zo yE yz (zb (pv 2)) (za zg)))))
      rotate_left
      .rfl
      with_reducible refine zL ?_ ?_ ?_
      .exact (za (zo GB Gk (za (zo yE yz (zb (pv 2)) (za zg))) (za (zo yE yz (za (zo GC Gm (zb (pv 2)) (za zg))) (za zg)))))
      rotate_left
      .rfl
      exact zf
     .exact yt
    .refine zA ?_ ?_
     .refine yc ?_ ?_ ?_
      .exact (z8 yW (yX (yv hr)) (zT _) (zb (pv 0)) (za zg))
      .refine zA ?_ ?_
       .refine ye (i:=3) sc_law_bad.nd rfl (Or.inl rfl) ?_
        exact (zp DA (DH T) (hr.mono (by decide)) (by rfl) T.d_law_odd.g T.d_law_odd.F.kp T.d_law_odd.b zv (zc (zb (pv 2)) (zc (za zg) (zc (za (zo qF qv (za zg) (za zg))) zf))))
       .exact (qi 3 (zr (zS (zu z4 (z5 rfl) (fun _ _=>rfl) (za (yj (zc (za (yH (zc (zb (pv 3)) (zc (za (zo qF qv (za zg) (za zg))) zf)))) (zc (za (yH (zc (za zg) (zc (zb (pv 3)) zf)))) zf)))) (za (zo yE yz (zb (pv 1)) (za zg)))))))
      .exact yt
     .refine zr ?_
      refine zS ?_
      with_reducible refine zu z4 ?_ ?_ ?_ ?_
      .exact (z5 rfl)
      .exact (fun _ _=>rfl)
      .with_reducible refine za ?_
       with_reducible refine yj ?_
       with_reducible refine zL ?_ ?_ ?_
       .with_reducible refine za ?_
        with_reducible refine yH ?_
        with_reducible refine zL ?_ ?_ ?_
        .with_reducible refine za ?_
         exact (zp DA (DH T) (hr.mono (by decide)) (by rfl) T.d_law_odd.g T.d_law_odd.F.kp T.d_law_odd.b zv (zc (zb (pv 2)) (zc (za zg) (zc (za (zo qF qv (za zg) (za zg))) zf))))
        rotate_left
        .rfl
        with_reducible refine zL ?_ ?_ ?_
        .exact (za zg)
        rotate_left
        .rfl
        exact zf
       rotate_left
       .rfl
       with_reducible refine zL ?_ ?_ ?_
       .with_reducible refine za ?_
        with_reducible refine yH ?_
        with_reducible refine zL ?_ ?_ ?_
        .exact (za zg)
        rotate_left
        .rfl
        with_reducible refine zL ?_ ?_ ?_
        .with_reducible refine za ?_
         exact (zp DA (DH T) (hr.mono (by decide)) (by rfl) T.d_law_odd.g T.d_law_odd.F.kp T.d_law_odd.b zv (zc (zb (pv 2)) (zc (za zg) (zc (za zg) zf))))
        rotate_left
        .rfl
        exact zf
       rotate_left
       .rfl
       exact zf
      .exact (za (zo yE yz (zb (pv 1)) (za zg)))
def AR (T:Txt K mg):FnOk P w K mg base (XT P w) 1 T.f_law_cell_at T.fd_law_cell_at ["_law_script","_law_k"] (zm (kx T) 2 f_law_cell_at):=yo T.d_law_cell_at.F RH fun cdv A outer s H E hr=>by unfold GW;exact (zA (yc (z8 PY Nu (zT _) (zb (pv 1)) (za (yb BW (BX rfl) (by rfl) T.n_len Dn (zc (zb (pv 0)) zf)))) (zr (zS (zu z4 (z5 rfl) (fun _ _=>rfl) (zb (pv 0)) (zb (pv 1))))) yt) (zr (zS zg)))
def IZ (T:Txt K mg):FnOk P w K mg base (XT P w) 1 T.f_law_good T.fd_law_good ["_law_way","_law_number"] (zm (kx T) 2 f_law_good):=yo T.d_law_good.F RI fun cdv A outer s H E hr=>by
 unfold FA
 refine zA ?_ ?_
 .refine yc ?_ ?_ ?_
  .exact (z8 yW (yX (yv hr)) (zT _) (zb (pv 0)) (za zg))
  .refine zr ?_
   refine zS ?_
   with_reducible refine zu z4 ?_ ?_ ?_ ?_
   .exact (z5 rfl)
   .exact (fun _ _=>rfl)
   .with_reducible refine za ?_
    with_reducible refine yj ?_
    with_reducible refine zL ?_ ?_ ?_
    .exact (za zg)
    rotate_left
    .rfl
    with_reducible refine zL ?_ ?_ ?_
    .exact (za (zo qF qv (za zg) (za zg)))
    rotate_left
    .rfl
    with_reducible refine zL ?_ ?_ ?_
    .exact (zb (pv 1))
    rotate_left
    .rfl
    exact zf
   .exact (za (zo yE yz (zb (pv 1)) (za zg)))
  .exact yt
 .refine zA ?_ ?_
  .refine yc ?_ ?_ ?_
   .exact (z8 yW (yX (yv hr)) (zT _) (zb (pv 0)) (za zg))
   .refine zr ?_
    refine zS ?_
    with_reducible refine zu z4 ?_ ?_ ?_ ?_
    .exact (z5 rfl)
    .exact (fun _ _=>rfl)
    .with_reducible refine za ?_
     with_reducible refine yj ?_
     with_reducible refine zL ?_ ?_ ?_
     .with_reducible refine za ?_
      with_reducible refine yH ?_
      with_reducible refine zL ?_ ?_ ?_
      .exact (za zg)
      rotate_left
      .rfl
      with_reducible refine zL ?_ ?_ ?_
      .exact (za zg)
      rotate_left
      .rfl
      exact zf
     rotate_left
     .rfl
     with_reducible refine zL ?_ ?_ ?_
     .with_reducible refine za ?_
      with_reducible refine yH ?_
      with_reducible refine zL ?_ ?_ ?_
      .exact (za zg)
      rotate_left
      .rfl
      with_reducible refine zL ?_ ?_ ?_
      .exact (za (zo qF qv (za zg) (za zg)))
      rotate_left
      .rfl
      exact zf
     rotate_left
     .rfl
     with_reducible refine zL ?_ ?_ ?_
     .with_reducible refine za ?_
      with_reducible refine yH ?_
      with_reducible refine zL ?_ ?_ ?_
      .exact (za (zo qF qv (za zg) (za zg)))
      rotate_left
      .rfl
      with_reducible refine zL ?_ ?_ ?_
      .exact (za (zo qF qv (za zg) (za zg)))
      rotate_left
      .rfl
      exact zf
     rotate_left
     .rfl
     with_reducible refine zL ?_ ?_ ?_
     .with_reducible refine za ?_
      with_reducible refine yH ?_
      with_reducible refine zL ?_ ?_ ?_
      .exact (zb (pv 1))
      rotate_left
      .rfl
      with_reducible refine zL ?_ ?_ ?_
      .exact (za (zo yw yx (zb (pv 1)) (za (zo yE yz (zb (pv 1)) (za zg)))))
      rotate_left
      .rfl
      exact zf
     rotate_left
     .rfl
     exact zf
    .exact (za (zo yE yz (zb (pv 1)) (za zg)))
   .exact yt
  .refine zr ?_
   refine zS ?_
   with_reducible refine zu z4 ?_ ?_ ?_ ?_
   .exact (z5 rfl)
   .exact (fun _ _=>rfl)
   .with_reducible refine za ?_
    with_reducible refine yj ?_
    with_reducible refine zL ?_ ?_ ?_
    .with_reducible refine za ?_
     with_reducible refine yH ?_
     with_reducible refine zL ?_ ?_ ?_
     .exact (za zg)
     rotate_left
     .rfl
     with_reducible refine zL ?_ ?_ ?_
     .exact (za zg)
     rotate_left
     .rfl
     exact zf
    rotate_left
    .rfl
    with_reducible refine zL ?_ ?_ ?_
    .with_reducible refine za ?_
     with_reducible refine yH ?_
     with_reducible refine zL ?_ ?_ ?_
     .exact (za (zo qF qv (za zg) (za zg)))
     rotate_left
     .rfl
     with_reducible refine zL ?_ ?_ ?_
     .exact (za zg)
     rotate_left
     .rfl
     exact zf
    rotate_left
    .rfl
    with_reducible refine zL ?_ ?_ ?_
    .with_reducible refine za ?_
     with_reducible refine yH ?_
     with_reducible refine zL ?_ ?_ ?_
     .exact (za (zo yw yx (za zg) (za (zo yE yz (zb (pv 1)) (za (zo qF qv (za zg) (za zg)))))))
     rotate_left
     .rfl
     with_reducible refine zL ?_ ?_ ?_
     .exact (za (zo yE yz (zb (pv 1)) (za zg)))
     rotate_left
     .rfl
     exact zf
    rotate_left
    .rfl
    exact zf
   .exact (za (zo yE yz (zb (pv 1)) (za zg)))
def Su (T:Txt K mg):FnOk P w K mg base (XT P w) 3 T.f_law_lists T.fd_law_lists ["_law_way","_law_script"] (zm (kx T) 2 f_law_lists):=yo T.d_law_lists.F sc_law_lists fun cdv A outer s H E hr=>by unfold Iz DD DC DB;exact (zA (ye (i:=2) sc_law_lists.nd rfl (Or.inl rfl) (zp EZ (FO T) (hr.mono (by decide)) (by rfl) T.d_law_mixed.g T.d_law_mixed.F.kp T.d_law_mixed.b zv (zc (za (zp AQ (AR T) (hr.mono (by decide)) (by rfl) T.d_law_cell_at.g T.d_law_cell_at.F.kp T.d_law_cell_at.b zv (zc (zb (pv 1)) (zc (za zg) zf)))) (zc (za zg) zf)))) (zA (Qp (i:=3) sc_law_lists.nd rfl (by rfl) (loc:=["_law_k"]) (free:=["_law_way","_law_script"]) (fr:=[0,1]) rfl (AU (sc:=zC FN) (N:=(["_law_way","_law_script","_law_number","_law_some","_law_at","_law_bad_here","_law_most","_law_lists_here"]:List Str)) rfl rfl (by decide+kernel)) (EJ rfl T.n_range (zc (za (zo yw yx (za zg) (za (zo yE yz (zb (pv 2)) (za zg))))) zf)) (fun _ _ _ _ _=>(yJ (pgc 0 (["_law_k","_law_way","_law_script"]:List Str) (by decide+kernel) rfl rfl (Or.inl rfl) rfl))) (fun _ _ _ _ _=>BC) (fun _ _ _ _ _=>(zp Iy (IZ T) (hr.mono (by decide)) (by rfl) T.d_law_good.g T.d_law_good.F.kp T.d_law_good.b AZ (zc (zb (pv 1)) (zc (za (zp EZ (FO T) (hr.mono (by decide)) (by rfl) T.d_law_mixed.g T.d_law_mixed.F.kp T.d_law_mixed.b AZ (zc (za (zp AQ (AR T) (hr.mono (by decide)) (by rfl) T.d_law_cell_at.g T.d_law_cell_at.F.kp T.d_law_cell_at.b AZ (zc (zb (pv 2)) (zc (za (zo yw yx (za zg) (zb (pv 0)))) zf)))) (zc (zb (pv 0)) zf)))) zf))))) (zA (ye (i:=4) sc_law_lists.nd rfl (Or.inl rfl) (zo yE yz (za (zo GC Gm (zb (pv 2)) (za zg))) (za (zo yw yx (za (yb BW (BX rfl) (by rfl) T.n_len Dn (zc (zb (pv 3)) zf))) (za zg))))) (zA (ye (i:=5) sc_law_lists.nd rfl (Or.inl rfl) (zp R4 (Ss T) (hr.mono (by decide)) (by rfl) T.d_law_bad.g T.d_law_bad.F.kp T.d_law_bad.b zv (zc (zb (pv 0)) (zc (za (zp EZ (FO T) (hr.mono (by decide)) (by rfl) T.d_law_mixed.g T.d_law_mixed.F.kp T.d_law_mixed.b zv (zc (za (zp AQ (AR T) (hr.mono (by decide)) (by rfl) T.d_law_cell_at.g T.d_law_cell_at.F.kp T.d_law_cell_at.b zv (zc (zb (pv 1)) (zc (za zg) zf)))) (zc (za zg) zf)))) zf)))) (zA (ye (i:=6) sc_law_lists.nd rfl (Or.inl rfl) (zu z4 (z5 rfl) (fun _ _=>rfl) (za (yj (zc (za zg) (zc (za zg) (zc (za zg) zf))))) (zb (pv 0)))) (qi 5 (zA (ye (i:=7) sc_law_lists.nd rfl (Or.inl rfl) (yj (zc (za (zo yw yx (za (zo yw yx (za (r_sl rfl (zb (pv 3)) KL (KM (zb (pv 4))))) (za (yj (zc (zb (pv 5)) zf))))) (za (r_sl rfl (zb (pv 3)) (KM (zb (pv 4))) KL)))) (zc (za (r_ty Re (Rc rfl) (by rfl) T.n_tuple Ga (zc (zb (pv 3)) zf))) (zc (za qx) (zc (za zg) (zc (za y8) (zc (za Lm) (zc (za (zu z4 (z5 rfl) (fun _ _=>rfl) (zb (pv 3)) (za zg))) zf))))))))) (zA (EM EN rfl Em En CM (zb (pv 7)) (zc (za (BZ (loc:=["_law_k"]) (free:=["_law_way"]) (fr:=[0]) rfl (AU (sc:=zC FN) (N:=(["_law_way","_law_script","_law_number","_law_some","_law_at","_law_bad_here","_law_most","_law_lists_here"]:List Str)) rfl rfl (by decide+kernel)) (EJ rfl T.n_range (zc (za (zo yw yx (zb (pv 6)) (za zg))) zf)) (fun _ _ _ _ _=>(yJ (pgc 0 (["_law_k","_law_way"]:List Str) (by decide+kernel) rfl rfl (Or.inl rfl) rfl))) (fun _ _ _ _ _=>BC) (fun _ _ _ _ _=>(zp Iy (IZ T) (hr.mono (by decide)) (by rfl) T.d_law_good.g T.d_law_good.F.kp T.d_law_good.b AZ (zc (zb (pv 1)) (zc (za (zo yw yx (za zg) (za (zo BS BR (za zg) (zb (pv 0)))))) zf)))))) zf)) (zA (EM EN rfl Em En CM (zb (pv 7)) (zc (za (zo BS BR (za (yj (zc (za (zu z4 (z5 rfl) (fun _ _=>rfl) (zb (pv 3)) (za zg))) zf))) (za (zo yw yx (zb (pv 6)) (za zg))))) zf)) (qi 7 (qi 3 (zr (zS (yj (zc (zb (pv 3)) (zc (zb (pv 7)) (zc (za (BZ (loc:=["_law_k"]) (free:=["_law_way"]) (fr:=[0]) rfl (AU (sc:=zC FN) (N:=(["_law_way","_law_script","_law_number","_law_some","_law_at","_law_bad_here","_law_most","_law_lists_here"]:List Str)) rfl rfl (by decide+kernel)) (EJ rfl T.n_range (zc (zb (pv 6)) zf)) (fun _ _ _ _ _=>(yJ (pgc 0 (["_law_k","_law_way"]:List Str) (by decide+kernel) rfl rfl (Or.inl rfl) rfl))) (fun _ _ _ _ _=>BC) (fun _ _ _ _ _=>(zp Iy (IZ T) (hr.mono (by decide)) (by rfl) T.d_law_good.g T.d_law_good.F.kp T.d_law_good.b AZ (zc (zb (pv 1)) (zc (za (zo yw yx (za zg) (za (zo BS BR (za zg) (zb (pv 0)))))) zf)))))) zf)))))))))))))))))
def Md (T:Txt K mg):FnOk P w K mg base (XT P w) 1 T.f_merged T.fd_merged ["rows"] (zm (kx T) 1 f_merged):=yo T.d_merged.F sc_merged fun cdv A outer s H E hr=>by unfold IB IA;exact (zA (ye (i:=1) sc_merged.nd rfl (Or.inl rfl) (yj zf)) (zA (CP Dz rfl (BN rfl (za (yb Qm (Ql rfl) (by rfl) T.n_sorted PyProof.Rows.boot_sorted (zc (zb (pv 0)) zf)))) (G7 (n:=2) (Gi rfl (qG (yJ (qj (i:=2) sc_merged.nd rfl (Or.inl rfl))) (qG (yJ (qj (i:=3) sc_merged.nd rfl (Or.inl rfl))) ED qQ) qQ)) (qM (qM EO))) (zr (yc (PW.pt (G2 (HY rfl (zb (pv 1))) (G1 (z8 EG DP (zT _) (zb (pv 2)) (za (zo yw yx (za (zu z4 (z5 rfl) (fun _ _=>rfl) (za (zu z4 (z5 rfl) (fun _ _=>rfl) (zb (pv 1)) (za (BD (za zg))))) (za zg))) (za zg))))))) (zr (KQ (yH (zc (za (zu z4 (z5 rfl) (fun _ _=>rfl) (za (zu z4 (z5 rfl) (fun _ _=>rfl) (zb (pv 1)) (za (BD (za zg))))) (za zg))) (zc (za (yb Qe (N4 rfl) (by rfl) T.n_max PyProof.Rows.boot_max (zc (za (zu z4 (z5 rfl) (fun _ _=>rfl) (za (zu z4 (z5 rfl) (fun _ _=>rfl) (zb (pv 1)) (za (BD (za zg))))) (za zg))) (zc (zb (pv 3)) zf)))) zf))) (zb (pv 1)) (za (BD (za zg))) fun a b c=>Hz a (Jy b c JH))) (zr (EM EN rfl Em En CM (zb (pv 1)) (zc (za (yH (zc (zb (pv 2)) (zc (zb (pv 3)) zf)))) zf)))))) (zr (G6 (pv 1)))))
def Me (T:Txt K mg):FnOk P w K mg base (XT P w) 1 T.f_is_short_list T.fd_is_short_list ["thing"] (zm (kx T) 1 f_is_short_list):=yo T.d_is_short_list.F RJ fun cdv A outer s H E hr=>by unfold FC;exact (zr (zS (AM (yb CS (CT rfl) (by rfl) T.n_isinstance Be (zc (zb (pv 0)) (zc (za (yd (BJ (v:= .ty "list") (by rfl) T.n_list Gb rfl) fun _ _ _=>.ty _)) zf))) (BM (AY EG DP (zT _) (za (yb BW (BX rfl) (by rfl) T.n_len Dn (zc (zb (pv 0)) zf))) (za (yd (yN (v:= .int 200) (by rfl) T.c_MOST_HANDED_IN ⟨_,rfl⟩) fun _ _ _=>.int _)))))))
def Hi (T:Txt K mg):FnOk P w K mg base (XT P w) 1 T.f_is_whole T.fd_is_whole ["thing"] (zm (kx T) 1 f_is_whole):=yo T.d_is_whole.F RK fun cdv A outer s H E hr=>by unfold IC;exact (zr (zS (AM (yb CS (CT rfl) (by rfl) T.n_isinstance Be (zc (zb (pv 0)) (zc (za (yd (BJ (v:= .ty "int") (by rfl) T.n_int PyProof.Rows.boot_int rfl) fun _ _ _=>.ty _)) zf))) (BM (PH (yb CS (CT rfl) (by rfl) T.n_isinstance Be (zc (zb (pv 0)) (zc (za (yd (BJ (v:= .ty "bool") (by rfl) T.n_bool PyProof.Rows.boot_bool rfl) fun _ _ _=>.ty _)) zf))))))))
def FP (T:Txt K mg):FnOk P w K mg base (XT P w) 2 T.f_is_whole_between T.fd_is_whole_between ["thing","low","high"] (zm (kx T) 3 f_is_whole_between):=yo T.d_is_whole_between.F RL fun cdv A outer s H E hr=>by unfold FD;exact (zr (zS (AM (zp GX (Hi T) (hr.mono (by decide)) (by rfl) T.d_is_whole.g T.d_is_whole.F.kp T.d_is_whole.b zv (zc (zb (pv 0)) zf)) (BM (Qr EG EG DP DP (zb (pv 1)) (zb (pv 0)) (zb (pv 2)))))))
def Ja (T:Txt K mg):FnOk P w K mg base (XT P w) 3 T.f_is_turn T.fd_is_turn ["thing"] (zm (kx T) 1 f_is_turn):=yo T.d_is_turn.F RM fun cdv A outer s H E hr=>by unfold ID;exact (zr (zS (zp FE (FP T) (hr.mono (by decide)) (by rfl) T.d_is_whole_between.g T.d_is_whole_between.F.kp T.d_is_whole_between.b zv (zc (zb (pv 0)) (zc (za zg) (zc (za (yd (yN (v:= .int 10000000000) (by rfl) T.c_LAST_TURN ⟨_,rfl⟩) fun _ _ _=>.int _)) zf))))))
def Sw (T:Txt K mg):FnOk P w K mg base (XT P w) 4 T.f_is_row T.fd_is_row ["thing"] (zm (kx T) 1 f_is_row):=yo T.d_is_row.F RN fun cdv A outer s H E hr=>by unfold CH;exact (zA (yc (PW.pt (qq (qw (qC (yb CS (CT rfl) (by rfl) T.n_isinstance Be (zc (zb (pv 0)) (zc (za (yd (BJ (v:= .ty "tuple") (by rfl) T.n_tuple Ga rfl) fun _ _ _=>.ty _)) zf))))) (qK (z8 BV (BU (yv hr)) (zT _) (za (yb BW (BX rfl) (by rfl) T.n_len Dn (zc (zb (pv 0)) zf))) (za zg))))) (zr (zS zW)) yt) (zr (zS (AM (zp IE (Ja T) (hr.mono (by decide)) (by rfl) T.d_is_turn.g T.d_is_turn.F.kp T.d_is_turn.b zv (zc (za (zu z4 (z5 rfl) (fun _ _=>rfl) (zb (pv 0)) (za zg))) zf)) (AM (zp IE (Ja T) (hr.mono (by decide)) (by rfl) T.d_is_turn.g T.d_is_turn.F.kp T.d_is_turn.b zv (zc (za (zu z4 (z5 rfl) (fun _ _=>rfl) (zb (pv 0)) (za zg))) zf)) (BM (AY EG DP (zT _) (za (zu z4 (z5 rfl) (fun _ _=>rfl) (zb (pv 0)) (za zg))) (za (zu z4 (z5 rfl) (fun _ _=>rfl) (zb (pv 0)) (za zg))))))))))
def Sx (T:Txt K mg):FnOk P w K mg base (XT P w) 5 T.f_tidy T.fd_tidy ["rows"] (zm (kx T) 1 f_tidy):=yo T.d_tidy.F RO fun cdv A outer s H E hr=>by unfold DE GY;exact (zA (yc (PW.pt (qq (qw (qC (zp Lz (Me T) (hr.mono (by decide)) (by rfl) T.d_is_short_list.g T.d_is_short_list.F.kp T.d_is_short_list.b zv (zc (zb (pv 0)) zf)))) (qK (qw (qC (yb HW (HX rfl rfl) (by rfl) T.n_all Gc (zc (za (BZ (loc:=["row"]) (free:=[]) (fr:=[]) rfl (AU (sc:=zC IU) (N:=(["rows"]:List Str)) rfl rfl (by decide+kernel)) (BN rfl (zb (pv 0))) (fun _ _ _ _ _=>(yJ (pgc 0 (["row"]:List Str) (by decide+kernel) rfl rfl (Or.inl rfl) rfl))) (fun _ _ _ _ _=>BC) (fun _ _ _ _ _=>(zp R6 (Sw T) (hr.mono (by decide)) (by rfl) T.d_is_row.g T.d_is_row.F.kp T.d_is_row.b AZ (zc (zb (pv 0)) zf))))) zf))))))) (zr (EV rfl T.x_NoSpans rfl (by rfl) DV (zc (za y8) zf))) yt) (zr (zS (zp Ly (Md T) (hr.mono (by decide)) (by rfl) T.d_merged.g T.d_merged.F.kp T.d_merged.b zv (zc (zb (pv 0)) zf)))))
def Sy (T:Txt K mg):FnOk P w K mg base (XT P w) 4 T.f_spans_of T.fd_spans_of ["turns"] (zm (kx T) 1 f_spans_of):=yo T.d_spans_of.F RQ fun cdv A outer s H E hr=>by unfold DF Ha GZ;exact (zA (yc (PW.pt (qq (qw (qC (zp Lz (Me T) (hr.mono (by decide)) (by rfl) T.d_is_short_list.g T.d_is_short_list.F.kp T.d_is_short_list.b zv (zc (zb (pv 0)) zf)))) (qK (qw (qC (yb HW (HX rfl rfl) (by rfl) T.n_all Gc (zc (za (BZ (loc:=["turn"]) (free:=[]) (fr:=[]) rfl (AU (sc:=zC Hg) (N:=(["turns"]:List Str)) rfl rfl (by decide+kernel)) (BN rfl (zb (pv 0))) (fun _ _ _ _ _=>(yJ (pgc 0 (["turn"]:List Str) (by decide+kernel) rfl rfl (Or.inl rfl) rfl))) (fun _ _ _ _ _=>BC) (fun _ _ _ _ _=>(zp IE (Ja T) (hr.mono (by decide)) (by rfl) T.d_is_turn.g T.d_is_turn.F.kp T.d_is_turn.b AZ (zc (zb (pv 0)) zf))))) zf))))))) (zr (EV rfl T.x_NoSpans rfl (by rfl) DV (zc (za y8) zf))) yt) (zr (zS (zp Ly (Md T) (hr.mono (by decide)) (by rfl) T.d_merged.g T.d_merged.F.kp T.d_merged.b zv (zc (za (BZ (loc:=["turn"]) (free:=[]) (fr:=[]) rfl (AU (sc:=zC Hg) (N:=(["turns"]:List Str)) rfl rfl (by decide+kernel)) (BN rfl (zb (pv 0))) (fun _ _ _ _ _=>(yJ (pgc 0 (["turn"]:List Str) (by decide+kernel) rfl rfl (Or.inl rfl) rfl))) (fun _ _ _ _ _=>BC) (fun _ _ _ _ _=>(yH (zc (zb (pv 0)) (zc (zb (pv 0)) zf)))))) zf)))))
def Mf (T:Txt K mg):FnOk P w K mg base (XT P w) 1 T.f_neighbours_as_one T.fd_neighbours_as_one ["rows"] (zm (kx T) 1 f_neighbours_as_one):=yo T.d_neighbours_as_one.F sc_neighbours_as_one fun cdv A outer s H E hr=>by unfold IG IF;exact (zA (ye (i:=1) sc_neighbours_as_one.nd rfl (Or.inl rfl) (yj zf)) (zA (CP Dz rfl (BN rfl (zb (pv 0))) (G7 (n:=2) (Gi rfl (qG (yJ (qj (i:=2) sc_neighbours_as_one.nd rfl (Or.inl rfl))) (qG (yJ (qj (i:=3) sc_neighbours_as_one.nd rfl (Or.inl rfl))) ED qQ) qQ)) (qM (qM EO))) (zr (yc (PW.pt (G2 (HY rfl (zb (pv 1))) (G1 (z8 yW (yX (yv hr)) (zT _) (za (zu z4 (z5 rfl) (fun _ _=>rfl) (za (zu z4 (z5 rfl) (fun _ _=>rfl) (zb (pv 1)) (za (BD (za zg))))) (za zg))) (zb (pv 3)))))) (zr (KQ (yH (zc (za (zo yw yx (za (zu z4 (z5 rfl) (fun _ _=>rfl) (za (zu z4 (z5 rfl) (fun _ _=>rfl) (zb (pv 1)) (za (BD (za zg))))) (za zg))) (zb (pv 2)))) (zc (zb (pv 3)) zf))) (zb (pv 1)) (za (BD (za zg))) fun a b c=>Hz a (Jy b c JH))) (zr (EM EN rfl Em En CM (zb (pv 1)) (zc (za (yH (zc (zb (pv 2)) (zc (zb (pv 3)) zf)))) zf)))))) (zr (G6 (pv 1)))))
def Sz (T:Txt K mg):FnOk P w K mg base (XT P w) 2 T.f_kept_rows T.fd_kept_rows ["rows","rest"] (zm (kx T) 2 f_kept_rows):=yo T.d_kept_rows.F sc_kept_rows fun cdv A outer s H E hr=>by unfold FF;exact (zA (ye (i:=2) sc_kept_rows.nd rfl (Or.inl rfl) (zp L0 (Mf T) (hr.mono (by decide)) (by rfl) T.d_neighbours_as_one.g T.d_neighbours_as_one.F.kp T.d_neighbours_as_one.b zv (zc (zb (pv 0)) zf))) (zA (yc (PW.pt (G2 (HY rfl (zb (pv 2))) (G1 (z8 yW (yX (yv hr)) (zT _) (za (zu z4 (z5 rfl) (fun _ _=>rfl) (za (zu z4 (z5 rfl) (fun _ _=>rfl) (zb (pv 2)) (za (BD (za zg))))) (za zg))) (zb (pv 1)))))) (zr (Qs Qt rfl PySem.F.slot_list_pop PySem.F.type_list_pop On (zb (pv 2)))) yt) (zr (G6 (pv 2)))))
def Mg (T:Txt K mg):FnOk P w K mg base (XT P w) 3 T.f_is_machines T.fd_is_machines ["thing"] (zm (kx T) 1 f_is_machines):=yo T.d_is_machines.F RS fun cdv A outer s H E hr=>by unfold IH;exact (zr (zS (zp FE (FP T) (hr.mono (by decide)) (by rfl) T.d_is_whole_between.g T.d_is_whole_between.F.kp T.d_is_whole_between.b zv (zc (zb (pv 0)) (zc (za zg) (zc (za (yd (yN (v:= .int 16) (by rfl) T.c_MOST_MACHINES ⟨_,rfl⟩) fun _ _ _=>.int _)) zf))))))
def S1 (T:Txt K mg):FnOk P w K mg base (XT P w) 4 T.f_is_calendar_row T.fd_is_calendar_row ["thing"] (zm (kx T) 1 f_is_calendar_row):=yo T.d_is_calendar_row.F RT fun cdv A outer s H E hr=>by unfold DG;exact (zA (yc (PW.pt (qq (qw (qC (yb CS (CT rfl) (by rfl) T.n_isinstance Be (zc (zb (pv 0)) (zc (za (yd (BJ (v:= .ty "tuple") (by rfl) T.n_tuple Ga rfl) fun _ _ _=>.ty _)) zf))))) (qK (z8 BV (BU (yv hr)) (zT _) (za (yb BW (BX rfl) (by rfl) T.n_len Dn (zc (zb (pv 0)) zf))) (za zg))))) (zr (zS zW)) yt) (zr (zS (AM (zp FE (FP T) (hr.mono (by decide)) (by rfl) T.d_is_whole_between.g T.d_is_whole_between.F.kp T.d_is_whole_between.b zv (zc (za (zu z4 (z5 rfl) (fun _ _=>rfl) (zb (pv 0)) (za zg))) (zc (za zg) (zc (za (yd (yN (v:= .int 1000000) (by rfl) T.c_MOST_TURNS_OF_ROW ⟨_,rfl⟩) fun _ _ _=>.int _)) zf)))) (BM (zp L1 (Mg T) (hr.mono (by decide)) (by rfl) T.d_is_machines.g T.d_is_machines.F.kp T.d_is_machines.b zv (zc (za (zu z4 (z5 rfl) (fun _ _=>rfl) (zb (pv 0)) (za zg))) zf)))))))
def S2 (T:Txt K mg):FnOk P w K mg base (XT P w) 5 T.f_are_calendar_rows T.fd_are_calendar_rows ["thing"] (zm (kx T) 1 f_are_calendar_rows):=yo T.d_are_calendar_rows.F RU fun cdv A outer s H E hr=>by unfold FH Hb;exact (zA (yc (PW.pt (qq (qw (qC (yb CS (CT rfl) (by rfl) T.n_isinstance Be (zc (zb (pv 0)) (zc (za (yd (BJ (v:= .ty "list") (by rfl) T.n_list Gb rfl) fun _ _ _=>.ty _)) zf))))) (qK (z8 PZ Nv (zT _) (za (yb BW (BX rfl) (by rfl) T.n_len Dn (zc (zb (pv 0)) zf))) (za (yd (yN (v:= .int 16) (by rfl) T.c_MOST_ROWS ⟨_,rfl⟩) fun _ _ _=>.int _)))))) (zr (zS zW)) yt) (zr (zS (yb HW (HX rfl rfl) (by rfl) T.n_all Gc (zc (za (BZ (loc:=["row"]) (free:=[]) (fr:=[]) rfl (AU (sc:=zC IV) (N:=(["thing"]:List Str)) rfl rfl (by decide+kernel)) (BN rfl (zb (pv 0))) (fun _ _ _ _ _=>(yJ (pgc 0 (["row"]:List Str) (by decide+kernel) rfl rfl (Or.inl rfl) rfl))) (fun _ _ _ _ _=>BC) (fun _ _ _ _ _=>(zp RA (S1 T) (hr.mono (by decide)) (by rfl) T.d_is_calendar_row.g T.d_is_calendar_row.F.kp T.d_is_calendar_row.b AZ (zc (zb (pv 0)) zf))))) zf)))))
def S4 (T:Txt K mg):FnOk P w K mg base (XT P w) 3 T.f_is_rest T.fd_is_rest ["thing"] (zm (kx T) 1 f_is_rest):=yo T.d_is_rest.F RV fun cdv A outer s H E hr=>by unfold II;exact (zr (zS (zp FE (FP T) (hr.mono (by decide)) (by rfl) T.d_is_whole_between.g T.d_is_whole_between.F.kp T.d_is_whole_between.b zv (zc (zb (pv 0)) (zc (za zg) (zc (za (yd (yN (v:= .int 16) (by rfl) T.c_MOST_MACHINES ⟨_,rfl⟩) fun _ _ _=>.int _)) zf))))))
def Mj (T:Txt K mg):FnOk P w K mg base (XT P w) 6 T.f_Calendar_init T.fd_Calendar_init ["self","rows","rest"] (zm (kx T) 3 f_Calendar_init):=yo T.d_Calendar_init.F RW fun cdv A outer s H E hr=>by unfold FI;exact (zA (yc (PW.pt (qq (qw (qC (zp RB (S2 T) (hr.mono (by decide)) (by rfl) T.d_are_calendar_rows.g T.d_are_calendar_rows.F.kp T.d_are_calendar_rows.b zv (zc (zb (pv 1)) zf)))) (qK (qw (qC (zp RC (S4 T) (hr.mono (by decide)) (by rfl) T.d_is_rest.g T.d_is_rest.F.kp T.d_is_rest.b zv (zc (zb (pv 2)) zf))))))) (zr (EV rfl T.x_NoCalendar rfl (by rfl) DV (zc (za y8) zf))) yt) (zA (KR (Flds.cons rfl T.cl_Calendar T.na_Calendar_stretches Flds.nil) (zb (pv 0)) (zp R9 (Sz T) (hr.mono (by decide)) (by rfl) T.d_kept_rows.g T.d_kept_rows.F.kp T.d_kept_rows.b zv (zc (zb (pv 1)) (zc (zb (pv 2)) zf)))) (zr (KR (Flds.cons rfl T.cl_Calendar T.na_Calendar_beyond Flds.nil) (zb (pv 0)) (r_v (pv 2))))))
def S5 (T:Txt K mg):FnOk P w K mg base (XT P w) 8 T.f_calendar_of T.fd_calendar_of ["tell","turns","rest"] (zm (kx T) 3 f_calendar_of):=yo T.d_calendar_of.F sc_calendar_of fun cdv A outer s H E hr=>by unfold Hc IJ;exact (zA (yc (qw (qC (zp FE (FP T) (hr.mono (by decide)) (by rfl) T.d_is_whole_between.g T.d_is_whole_between.F.kp T.d_is_whole_between.b zv (zc (zb (pv 1)) (zc (za zg) (zc (za (yd (yN (v:= .int 200) (by rfl) T.c_MOST_TURNS_ASKED ⟨_,rfl⟩) fun _ _ _=>.int _)) zf)))))) (zr (EV rfl T.x_NoCalendar rfl (by rfl) DV (zc (za y8) zf))) yt) (zA (ye (i:=3) sc_calendar_of.nd rfl (Or.inl rfl) (yj zf)) (zA (CP Dz rfl (EJ rfl T.n_range (zc (zb (pv 1)) zf)) (yJ (qj (i:=4) sc_calendar_of.nd rfl (Or.inl rfl))) (zA (ye (i:=5) sc_calendar_of.nd rfl (Or.inl rfl) (R3 (i:=0) (k:=0) (Sl T) Sh Si rfl rfl (hr.mono (by decide)) rfl (Or.inl rfl) zv (zc (zb (pv 4)) zf))) (qi 5 (zA (yc (qw (qC (zp L1 (Mg T) (hr.mono (by decide)) (by rfl) T.d_is_machines.g T.d_is_machines.F.kp T.d_is_machines.b zv (zc (zb (pv 5)) zf)))) (zr (EV rfl T.x_NoCalendar rfl (by rfl) DV (zc (za y8) zf))) yt) (qi 5 (zr (EM EN rfl Em En CM (zb (pv 3)) (zc (za (yH (zc (za zg) (zc (zb (pv 5)) zf)))) zf)))))))) (qi 3 (zr (zS (KU (KS rfl L5 T.M_Calendar (Mj T) (hr.mono (by decide)) (by rfl) T.g_Calendar T.d_Calendar_init.b zv (zc (za (zp L0 (Mf T) (hr.mono (by decide)) (by rfl) T.d_neighbours_as_one.g T.d_neighbours_as_one.F.kp T.d_neighbours_as_one.b zv (zc (zb (pv 3)) zf))) (zc (zb (pv 2)) zf))))))))))
def S6 (T:Txt K mg) (hC:PySem.W.CodeHd base T.tcd T.ttb) (hB:base.BuiltinsAt mg T.ttb) (hm:mainGlobals≠T.ttb):FnOk P w K mg base (XT P w) 9 T.f_law_asked T.fd_law_asked ["_law_way","_law_some","_law_rest"] (zm (kx T) 3 f_law_asked):=fn3k T.d_law_asked.F RX T.q_code fun A outer s H E hr=>by unfold qN;exact (zr (yc (z8 yW (yX (yv hr)) (zT _) (zb (pv 0)) (za zg)) (zr (G5 (zp R7 (Sx T) (hr.mono (by decide)) (by rfl) T.d_tidy.g T.d_tidy.F.kp T.d_tidy.b zv (zc (zb (pv 1)) zf)))) (zr (yc (z8 yW (yX (yv hr)) (zT _) (zb (pv 0)) (za zg)) (zr (G5 (zp R8 (Sy T) (hr.mono (by decide)) (by rfl) T.d_spans_of.g T.d_spans_of.F.kp T.d_spans_of.b zv (zc (zb (pv 1)) zf)))) (zr (yc (z8 yW (yX (yv hr)) (zT _) (zb (pv 0)) (za zg)) (zr (G5 (KU (KS rfl L5 T.M_Calendar (Mj T) (hr.mono (by decide)) (by rfl) T.g_Calendar T.d_Calendar_init.b zv (zc (zb (pv 1)) (zc (zb (pv 2)) zf)))))) (zr (G5 (zp RD (S5 T) (hr.mono (by decide)) (by rfl) T.d_calendar_of.g T.d_calendar_of.F.kp T.d_calendar_of.b zv (zc (za (R0 (lamk T) rfl rfl hC hB hm rfl Sj Sk)) (zc (zb (pv 1)) (zc (zb (pv 2)) zf))))))))))))
def BG (T:Txt K mg) (hC:PySem.W.CodeHd base T.tcd T.ttb) (hB:base.BuiltinsAt mg T.ttb) (hm:mainGlobals≠T.ttb):FnOk P w K mg base (XT P w) 10 T.f_law_refusal T.fd_law_refusal ["_law_way","_law_some","_law_rest"] (zm (kx T) 3 f_law_refusal):=yo T.d_law_refusal.F sc_law_refusal fun cdv A outer s H E hr=>by unfold FJ;exact (zA (ye (i:=3) sc_law_refusal.nd rfl (Or.inl rfl) qx) (zA (QJ RE (S6 T hC hB hm) (hr.mono (by decide)) (by rfl) T.d_law_asked.g T.d_law_asked.F.kp T.d_law_asked.b (fun _ _=>(zc (zb (pv 0)) (zc (zb (pv 1)) (zc (zb (pv 2)) zf)))) rfl rfl rfl (QK (i:=4) rfl ((qk T).ok rfl) sc_law_refusal.nd rfl (Or.inl rfl) rfl (by rfl) T.g_YardError (fun _=>(zr (ye (i:=3) sc_law_refusal.nd rfl (Or.inl rfl) (r_v (pv 4))))) QH)) (zr (G6 (pv 3)))))
def FQ (T:Txt K mg):FnOk P w K mg base (XT P w) 1 T.f_law_kinds T.fd_law_kinds ["_law_e"] (zm (kx T) 1 f_law_kinds):=yo T.d_law_kinds.F sc_law_kinds fun cdv A outer s H E hr=>by unfold IK;exact (zA (ye (i:=1) sc_law_kinds.nd rfl (Or.inl rfl) (yj (zc (za (yb (qD (qk T).is) (qu rfl) (by rfl) T.n_isinstance Be (zc (zb (pv 0)) (zc (za (yd (yN (v:= .ref T.C_NoName) (by rfl) T.g_NoName rfl) fun _ _ _=>.cls rfl)) zf)))) (zc (za (yb (qD (qk T).is) (qu rfl) (by rfl) T.n_isinstance Be (zc (zb (pv 0)) (zc (za (yd (yN (v:= .ref T.C_NoNumber) (by rfl) T.g_NoNumber rfl) fun _ _ _=>.cls rfl)) zf)))) (zc (za (yb (qD (qk T).is) (qu rfl) (by rfl) T.n_isinstance Be (zc (zb (pv 0)) (zc (za (yd (yN (v:= .ref T.C_NoCalendar) (by rfl) T.g_NoCalendar rfl) fun _ _ _=>.cls rfl)) zf)))) (zc (za (yb (qD (qk T).is) (qu rfl) (by rfl) T.n_isinstance Be (zc (zb (pv 0)) (zc (za (yd (yN (v:= .ref T.C_NoSpans) (by rfl) T.g_NoSpans rfl) fun _ _ _=>.cls rfl)) zf)))) zf)))))) (zA (ye (i:=1) sc_law_kinds.nd rfl (Or.inl rfl) (zo yw yx (zb (pv 1)) (za (yj (zc (za (yb (qD (qk T).is) (qu rfl) (by rfl) T.n_isinstance Be (zc (zb (pv 0)) (zc (za (yd (yN (v:= .ref T.C_TooMany) (by rfl) T.g_TooMany rfl) fun _ _ _=>.cls rfl)) zf)))) (zc (za (yb (qD (qk T).is) (qu rfl) (by rfl) T.n_isinstance Be (zc (zb (pv 0)) (zc (za (yd (yN (v:= .ref T.C_NoPlan) (by rfl) T.g_NoPlan rfl) fun _ _ _=>.cls rfl)) zf)))) (zc (za (yb (qD (qk T).is) (qu rfl) (by rfl) T.n_isinstance Be (zc (zb (pv 0)) (zc (za (yd (yN (v:= .ref T.C_NoLine) (by rfl) T.g_NoLine rfl) fun _ _ _=>.cls rfl)) zf)))) (zc (za (yb (qD (qk T).is) (qu rfl) (by rfl) T.n_isinstance Be (zc (zb (pv 0)) (zc (za (yd (yN (v:= .ref T.C_Twice) (by rfl) T.g_Twice rfl) fun _ _ _=>.cls rfl)) zf)))) zf)))))))) (zA (ye (i:=1) sc_law_kinds.nd rfl (Or.inl rfl) (zo yw yx (zb (pv 1)) (za (yj (zc (za (yb (qD (qk T).is) (qu rfl) (by rfl) T.n_isinstance Be (zc (zb (pv 0)) (zc (za (yd (yN (v:= .ref T.C_Taken) (by rfl) T.g_Taken rfl) fun _ _ _=>.cls rfl)) zf)))) (zc (za (yb (qD (qk T).is) (qu rfl) (by rfl) T.n_isinstance Be (zc (zb (pv 0)) (zc (za (yd (yN (v:= .ref T.C_NoJob) (by rfl) T.g_NoJob rfl) fun _ _ _=>.cls rfl)) zf)))) (zc (za (yb (qD (qk T).is) (qu rfl) (by rfl) T.n_isinstance Be (zc (zb (pv 0)) (zc (za (yd (yN (v:= .ref T.C_TooLong) (by rfl) T.g_TooLong rfl) fun _ _ _=>.cls rfl)) zf)))) zf))))))) (zr (zS (zo yw yx (zb (pv 1)) (za (yj (zc (za (yb (qD (qk T).is) (qu rfl) (by rfl) T.n_isinstance Be (zc (zb (pv 0)) (zc (za (yd (yN (v:= .ref T.C_YardError) (by rfl) T.g_YardError rfl) fun _ _ _=>.cls rfl)) zf)))) (zc (za (yb (Rp (qk T).is) (Rq rfl) (by rfl) T.n_isinstance Be (zc (zb (pv 0)) (zc (za (yd (BJ (v:= .ty "ValueError") (by rfl) T.n_ValueError (by decide+kernel) rfl) fun _ _ _=>.ty _)) zf)))) zf))))))))))
def FR (T:Txt K mg):FnOk P w K mg base (XT P w) 1 T.f_law_due T.fd_law_due ["_law_at"] (zm (kx T) 1 f_law_due):=yo T.d_law_due.F RY fun cdv A outer s H E hr=>by unfold IL He;exact (zr (zS (zo yw yx (za (BZ (loc:=["_law_k"]) (free:=["_law_at"]) (fr:=[0]) rfl (AU (sc:=zC IY) (N:=(["_law_at"]:List Str)) rfl rfl (by decide+kernel)) (EJ rfl T.n_range (zc (za zg) zf)) (fun _ _ _ _ _=>(yJ (pgc 0 (["_law_k","_law_at"]:List Str) (by decide+kernel) rfl rfl (Or.inl rfl) rfl))) (fun _ _ _ _ _=>BC) (fun _ _ _ _ _=>(AY yW (yX (yv hr)) (zT _) (zb (pv 0)) (zb (pv 1)))))) (za (yj (zc (za zW) (zc (za zW) zf)))))))
def S7 (T:Txt K mg):FnOk P w K mg base (XT P w) 3 T.f_law_errors T.fd_law_errors ["_law_name"] (zm (kx T) 1 f_law_errors):=yo T.d_law_errors.F sc_law_errors fun cdv A outer s H E hr=>by unfold IS IQ IM;exact (zA (ye (i:=1) sc_law_errors.nd rfl (Or.inl rfl) (yj (zc (za (r_xc rfl T.x_NoName T.kp_NoName (by rfl) rfl (zc (za y8) zf))) (zc (za (r_xc rfl T.x_NoNumber T.kp_NoNumber (by rfl) rfl (zc (za y8) zf))) (zc (za (r_xc rfl T.x_NoCalendar T.kp_NoCalendar (by rfl) rfl (zc (za y8) zf))) (zc (za (r_xc rfl T.x_NoSpans T.kp_NoSpans (by rfl) rfl (zc (za y8) zf))) (zc (za (r_xc rfl T.x_TooMany T.kp_TooMany (by rfl) rfl (zc (za y8) zf))) (zc (za (r_xc rfl T.x_NoPlan T.kp_NoPlan (by rfl) rfl (zc (za y8) zf))) (zc (za (r_xc rfl T.x_NoLine T.kp_NoLine (by rfl) rfl (zc (za y8) zf))) zf))))))))) (qi 1 (zA (CP Dz rfl (KI rfl rfl T.n_enumerate (zc (zb (pv 1)) zf)) (G7 (n:=2) (Gi rfl (qG (yJ (qj (i:=2) sc_law_errors.nd rfl (Or.inl rfl))) (qG (yJ (qj (i:=3) sc_law_errors.nd rfl (Or.inl rfl))) ED qQ) qQ)) (qM (qM EO))) (zr (yc (z8 BV (BU (yv hr)) (zT _) (za (zp FK (FQ T) (hr.mono (by decide)) (by rfl) T.d_law_kinds.g T.d_law_kinds.F.kp T.d_law_kinds.b zv (zc (zb (pv 3)) zf))) (za (zp FL (FR T) (hr.mono (by decide)) (by rfl) T.d_law_due.g T.d_law_due.F.kp T.d_law_due.b zv (zc (zb (pv 2)) zf)))) (zr (zS zW)) yt))) (zA (CP Dz rfl (KI rfl rfl T.n_enumerate (zc (za (yj (zc (za (GV rfl T.xi_Twice (by rfl) T.g_Twice (Sn T) (hr.mono (by decide)) T.b_Twice (zc (zb (pv 0)) zf))) (zc (za (GV rfl T.xi_Taken (by rfl) T.g_Taken (So T) (hr.mono (by decide)) T.b_Taken (zc (zb (pv 0)) zf))) (zc (za (GV rfl T.xi_NoJob (by rfl) T.g_NoJob (Sq T) (hr.mono (by decide)) T.b_NoJob (zc (zb (pv 0)) zf))) (zc (za (GV rfl T.xi_TooLong (by rfl) T.g_TooLong (Sr T) (hr.mono (by decide)) T.b_TooLong (zc (zb (pv 0)) zf))) zf)))))) zf)) (G7 (n:=2) (Gi rfl (qG (yJ (qj (i:=2) sc_law_errors.nd rfl (Or.inl rfl))) (qG (yJ (qj (i:=3) sc_law_errors.nd rfl (Or.inl rfl))) ED qQ) qQ)) (qM (qM EO))) (zr (yc (PW.pt (qq (z8 BV (BU (yv hr)) (zT _) (za (zp FK (FQ T) (hr.mono (by decide)) (by rfl) T.d_law_kinds.g T.d_law_kinds.F.kp T.d_law_kinds.b zv (zc (zb (pv 3)) zf))) (za (zp FL (FR T) (hr.mono (by decide)) (by rfl) T.d_law_due.g T.d_law_due.F.kp T.d_law_due.b zv (zc (za (zo yw yx (za zg) (zb (pv 2)))) zf)))) (qK (z8 BV (BU (yv hr)) (zT _) (za (r_xm (Sm T) (zb (pv 3)))) (zb (pv 0)))))) (zr (zS zW)) yt))) (zr (zS zW))))))
def G_law (T:Txt K mg) (hC:PySem.W.CodeHd base T.tcd T.ttb) (hB:base.BuiltinsAt mg T.ttb) (hm:mainGlobals≠T.ttb):FnOk P w K mg base (XT P w) 11 T.f_law T.fd_law ["_law_script"] (zm (kx T) 1 f_law):=yo T.d_law.F sc_law fun cdv A outer s H E hr=>by unfold IT Hf;exact (zA (ye (i:=1) sc_law.nd rfl (Or.inl rfl) (zo yE yz (za (zp AQ (AR T) (hr.mono (by decide)) (by rfl) T.d_law_cell_at.g T.d_law_cell_at.F.kp T.d_law_cell_at.b zv (zc (zb (pv 0)) (zc (za zg) zf)))) (za zg))) (zA (ye (i:=2) sc_law.nd rfl (Or.inl rfl) (zu z4 (z5 rfl) (fun _ _=>rfl) (za (yj (zc (za zg) (zc (za zg) (zc (za zg) (zc (za zg) zf)))))) (zb (pv 1)))) (zA (ye (i:=3) sc_law.nd rfl (Or.inl rfl) (zo yw yx (za y8) (za (r_ty Rh Rg (by rfl) T.n_str PyProof.Rows.boot_str (zc (za (zo yE yz (za (zp AQ (AR T) (hr.mono (by decide)) (by rfl) T.d_law_cell_at.g T.d_law_cell_at.F.kp T.d_law_cell_at.b zv (zc (zb (pv 0)) (zc (za zg) zf)))) (za (zo qF qv (za zg) (za zg))))) zf))))) (qi 3 (zA (yc (PW.pt (qq (qw (qC (zp RF (S7 T) (hr.mono (by decide)) (by rfl) T.d_law_errors.g T.d_law_errors.F.kp T.d_law_errors.b zv (zc (zb (pv 3)) zf)))) (qq (z8 Ie Ic (zT _) (za (zp GX (Hi T) (hr.mono (by decide)) (by rfl) T.d_is_whole.g T.d_is_whole.F.kp T.d_is_whole.b zv (zc (za zW) zf))) (za zW)) (qq (z8 Ie Ic (zT _) (za (zp GX (Hi T) (hr.mono (by decide)) (by rfl) T.d_is_whole.g T.d_is_whole.F.kp T.d_is_whole.b zv (zc (zb (pv 3)) zf))) (za zW)) (qK (z8 Ie Ic (zT _) (za (zp GX (Hi T) (hr.mono (by decide)) (by rfl) T.d_is_whole.g T.d_is_whole.F.kp T.d_is_whole.b zv (zc (za zg) zf))) (za zW))))))) (zr (zS zW)) yt) (zA (ye (i:=4) sc_law.nd rfl (Or.inl rfl) (zp DA (DH T) (hr.mono (by decide)) (by rfl) T.d_law_odd.g T.d_law_odd.F.kp T.d_law_odd.b zv (zc (za (zp EZ (FO T) (hr.mono (by decide)) (by rfl) T.d_law_mixed.g T.d_law_mixed.F.kp T.d_law_mixed.b zv (zc (za (zp AQ (AR T) (hr.mono (by decide)) (by rfl) T.d_law_cell_at.g T.d_law_cell_at.F.kp T.d_law_cell_at.b zv (zc (zb (pv 0)) (zc (za zg) zf)))) (zc (za zg) zf)))) (zc (za zg) (zc (za zg) zf))))) (zA (yc (z8 yW (yX (yv hr)) (zT _) (zb (pv 1)) (za zg)) (zA (ye (i:=5) sc_law.nd rfl (Or.inl rfl) (zu z4 (z5 rfl) (fun _ _=>rfl) (za (yj (zc (za (zp DA (DH T) (hr.mono (by decide)) (by rfl) T.d_law_odd.g T.d_law_odd.F.kp T.d_law_odd.b zv (zc (za (zp EZ (FO T) (hr.mono (by decide)) (by rfl) T.d_law_mixed.g T.d_law_mixed.F.kp T.d_law_mixed.b zv (zc (za (zp AQ (AR T) (hr.mono (by decide)) (by rfl) T.d_law_cell_at.g T.d_law_cell_at.F.kp T.d_law_cell_at.b zv (zc (zb (pv 0)) (zc (za zg) zf)))) (zc (za zg) zf)))) (zc (za zg) (zc (za zg) zf))))) (zc (za zg) zf)))) (za (zo yE yz (za (zp AQ (AR T) (hr.mono (by decide)) (by rfl) T.d_law_cell_at.g T.d_law_cell_at.F.kp T.d_law_cell_at.b zv (zc (zb (pv 0)) (zc (za zg) zf)))) (za zg))))) (qi 4 (zA (ye (i:=6) sc_law.nd rfl (Or.inl rfl) (zu z4 (z5 rfl) (fun _ _=>rfl) (za (yj (zc (za zg) (zc (zb (pv 4)) zf)))) (za (zo yE yz (za (zp AQ (AR T) (hr.mono (by decide)) (by rfl) T.d_law_cell_at.g T.d_law_cell_at.F.kp T.d_law_cell_at.b zv (zc (zb (pv 0)) (zc (za zg) zf)))) (za zg))))) (zA (yc (PW.pt (qq (z8 GE Gp (zT _) (za (zp BF (BG T hC hB hm) (hr.mono (by decide)) (by rfl) T.d_law_refusal.g T.d_law_refusal.F.kp T.d_law_refusal.b zv (zc (zb (pv 1)) (zc (za zg) (zc (za zg) zf))))) (za qx)) (qK (z8 GE Gp (zT _) (za (zp BF (BG T hC hB hm) (hr.mono (by decide)) (by rfl) T.d_law_refusal.g T.d_law_refusal.F.kp T.d_law_refusal.b zv (zc (zb (pv 1)) (zc (za zg) (zc (za zg) zf))))) (za qx))))) (zr (zS zW)) yt) (zA (ye (i:=7) sc_law.nd rfl (Or.inl rfl) (zp BF (BG T hC hB hm) (hr.mono (by decide)) (by rfl) T.d_law_refusal.g T.d_law_refusal.F.kp T.d_law_refusal.b zv (zc (zb (pv 1)) (zc (zb (pv 5)) (zc (zb (pv 6)) zf))))) (qi 7 (zr (zS (AM (AY GE Gp (zT _) (zb (pv 7)) (za qx)) (BM (AY yW (yX (yv hr)) (zT _) (za (zp FK (FQ T) (hr.mono (by decide)) (by rfl) T.d_law_kinds.g T.d_law_kinds.F.kp T.d_law_kinds.b zv (zc (zb (pv 7)) zf))) (za (zp FL (FR T) (hr.mono (by decide)) (by rfl) T.d_law_due.g T.d_law_due.F.kp T.d_law_due.b zv (zc (zb (pv 2)) zf)))))))))))))) yt) (zA (PN (zp R5 (Su T) (hr.mono (by decide)) (by rfl) T.d_law_lists.g T.d_law_lists.F.kp T.d_law_lists.b zv (zc (zb (pv 1)) (zc (zb (pv 0)) zf))) (PL (n:=3) (O7 rfl (qG (yJ (qj (i:=8) sc_law.nd rfl (Or.inl rfl))) (qG (yJ (qj (i:=9) sc_law.nd rfl (Or.inl rfl))) (qG (yJ (qj (i:=10) sc_law.nd rfl (Or.inl rfl))) ED qQ) qQ) qQ)) (qM (qM (qM EO)))) Hz) (zA (yc (z8 yW (yX (yv hr)) (zT _) (zb (pv 1)) (za zg)) (qi 4 (zA (ye (i:=7) sc_law.nd rfl (Or.inl rfl) (zp BF (BG T hC hB hm) (hr.mono (by decide)) (by rfl) T.d_law_refusal.g T.d_law_refusal.F.kp T.d_law_refusal.b zv (zc (zb (pv 1)) (zc (zb (pv 8)) (zc (zb (pv 4)) zf))))) (qi 7 (zr (yc (PW.pt (qq (z8 GD Gn (zT _) (zb (pv 7)) (za qx)) (qK (z8 BV (BU (yv hr)) (zT _) (za (zp FK (FQ T) (hr.mono (by decide)) (by rfl) T.d_law_kinds.g T.d_law_kinds.F.kp T.d_law_kinds.b zv (zc (zb (pv 7)) zf))) (za (zp FL (FR T) (hr.mono (by decide)) (by rfl) T.d_law_due.g T.d_law_due.F.kp T.d_law_due.b zv (zc (zb (pv 2)) zf))))))) (zr (zS zW)) yt))))) yt) (zA (CP Dz rfl (BN rfl (zb (pv 9))) (yJ (qj (i:=11) sc_law.nd rfl (Or.inl rfl))) (zA (ye (i:=7) sc_law.nd rfl (Or.inl rfl) (zp BF (BG T hC hB hm) (hr.mono (by decide)) (by rfl) T.d_law_refusal.g T.d_law_refusal.F.kp T.d_law_refusal.b zv (zc (zb (pv 1)) (zc (zb (pv 11)) (zc (za zg) zf))))) (qi 7 (zr (yc (PW.pt (qq (z8 GD Gn (zT _) (zb (pv 7)) (za qx)) (qK (z8 BV (BU (yv hr)) (zT _) (za (zp FK (FQ T) (hr.mono (by decide)) (by rfl) T.d_law_kinds.g T.d_law_kinds.F.kp T.d_law_kinds.b zv (zc (zb (pv 7)) zf))) (za (zp FL (FR T) (hr.mono (by decide)) (by rfl) T.d_law_due.g T.d_law_due.F.kp T.d_law_due.b zv (zc (zb (pv 2)) zf))))))) (zr (zS zW)) yt))))) (zA (ye (i:=12) sc_law.nd rfl (Or.inl rfl) (r_ty Qf (Qg rfl) (by rfl) T.n_list Gb (zc (zb (pv 8)) zf))) (zA (yc (z8 GE Gp (zT _) (za (zp BF (BG T hC hB hm) (hr.mono (by decide)) (by rfl) T.d_law_refusal.g T.d_law_refusal.F.kp T.d_law_refusal.b zv (zc (zb (pv 1)) (zc (za (zo BS BR (za (yj (zc (za (zu z4 (z5 rfl) (fun _ _=>rfl) (zb (pv 8)) (za zg))) zf))) (za (yb BW (BX rfl) (by rfl) T.n_len Dn (zc (zb (pv 10)) zf))))) (zc (za zg) zf))))) (za qx)) (zr (zS zW)) yt) (zr (zS (AM (AY GD Gn (zT _) (za (zp BF (BG T hC hB hm) (hr.mono (by decide)) (by rfl) T.d_law_refusal.g T.d_law_refusal.F.kp T.d_law_refusal.b zv (zc (zb (pv 1)) (zc (zb (pv 8)) (zc (za zg) zf))))) (za qx)) (AM (AY GD Gn (zT _) (za (zp BF (BG T hC hB hm) (hr.mono (by decide)) (by rfl) T.d_law_refusal.g T.d_law_refusal.F.kp T.d_law_refusal.b zv (zc (zb (pv 1)) (zc (zb (pv 10)) (zc (za zg) zf))))) (za qx)) (BM (AY yW (yX (yv hr)) (zT _) (zb (pv 8)) (zb (pv 12))))))))))))))))))))
end
end My
def PySem.W.Fast.tw14598715356260435866:Nat:=0
def PySem.W.Fast.tw7238046018651277534:Nat:=0
def PySem.W.Fast.tw6534874000650894987:Nat:=0
def PySem.W.Fast.tw10544295344006241723:Nat:=0
def PySem.W.Fast.tw3182386257043530798:Nat:=0
def PySem.W.Fast.tw12329155263669439519:Nat:=0
def PySem.W.Fast.tw3677632882827384062:Nat:=0
def PySem.W.Fast.tw13388153557339397715:Nat:=0
def PySem.W.Fast.tw16205993139258394665:Nat:=0
def PySem.W.Fast.tw12186927737360925045:Nat:=0
def PySem.W.Fast.tw13256641116850012859:Nat:=0
def PySem.W.Fast.tw4069818745696331118:Nat:=0
def PySem.W.Fast.tw12309487429465621764:Nat:=0
def PySem.W.Fast.tw10594365738534580157:Nat:=0
def PySem.W.Fast.tw1319192029097868252:Nat:=0
def PySem.W.Fast.tw10178460254095656201:Nat:=0
def PySem.W.Fast.tw17846797487192150033:Nat:=0
def PySem.W.Fast.tw12196925527506493495:Nat:=0
def PySem.W.Fast.tw8565733149115213228:Nat:=0
def PySem.W.Fast.tw6667695353286145696:Nat:=0
def PySem.W.Fast.tw11488531227469871684:Nat:=0
def PySem.W.Fast.tw5822829993140332335:Nat:=0
def PySem.W.Fast.tw1992449075930466090:Nat:=0
def PySem.W.Fast.tw5262731503136342451:Nat:=0
def PySem.W.Fast.tw5173889594236819067:Nat:=0
def PySem.W.Fast.tw10531621347620151403:Nat:=0
def PySem.W.Fast.tw12411216588197505872:Nat:=0
def PySem.W.Fast.tw17495155262278756735:Nat:=0
def PySem.W.Fast.tw8988036822726370258:Nat:=0
def PySem.W.Fast.tw3510150404263062150:Nat:=0
def PySem.W.Fast.tw17754248650196429969:Nat:=0
def PySem.W.Fast.tw3755207421432117513:Nat:=0
namespace My
open PySem PySem.W L2 L3
def ask:L4.Ask where
 law:=50
 at_:=[2,3,15,17,18,20,21,22,29,30,31,32,35,42,43,44,47,54,55,56,59,66,67,68,71,78,79,80,83,90,91,92,95,102,103,104,107,114,115,116,119,126,128,129,131,132,133,134,135,138,145,147,148,150,151,152,153,154,157,164,166,167,169,170,171,172,173,176,183,185,186,188,189,190,191,192,195,197,198,200,201,202,204,205,207,208,209,211,212,214,215,216,218,219,221,222,223,225,226,228,229,230,232,233,235,236,237,240,241,242,245,246,247,249,250,252,253,254,256,257,259,260,261,263,264,266,267,268,271,272,273,275,276,278,279,280,282,283,285,286,294,296,297,299,300,301,303,304,306,307,308,310,311,313,314,315,317,318,320,321,322,324,325,327,328,329,331,332,334,335,336,338,339,341,342,343,345,346,348,349,350,352,353,355,356,357,359,360,362,363,364,366,367,369,370,371,372,373,374,375,378,380,381,383,384,385,387,388,390,391,392,394,395,397,398,399,401,402,404,405,406,409,410,411,413,414,416,417,418,420,421,423,424,425,427,428,430,431,432,434,435,437,438,439,441,442,444,445,446,448,449,451,452,453,456,457,458,460,461,463,464]
 defs:=[("_law_odd",47),("_law_mixed",40),("_law_bad",48),("_law_cell_at",39),("_law_good",46),("_law_lists",49),("merged",22),("is_short_list",21),("is_whole",17),("is_whole_between",18),("is_turn",19),("is_row",20),("tidy",23),("spans_of",24),("neighbours_as_one",34),("kept_rows",35),("is_machines",30),("is_calendar_row",32),("are_calendar_rows",33),("is_rest",31),("calendar_of",37),("_law_asked",44),("_law_refusal",45),("_law_kinds",41),("_law_due",42),("_law_errors",43),("law",50)]
 cls:=[("Calendar",36,[("__init__","Calendar.__init__",0)],["stretches","beyond"])]
 bare:=["ValueError","all","bool","enumerate","int","isinstance","len","list","max","range","sorted","str","tuple"]
 con:=[("MOST_HANDED_IN",.int 200),("LAST_TURN",.int 10000000000),("MOST_ROWS",.int 16),("MOST_TURNS_OF_ROW",.int 1000000),("MOST_MACHINES",.int 16),("MOST_TURNS_ASKED",.int 200)]
 exc:=[("YardError",false),("NoName",true),("NoNumber",true),("NoCalendar",true),("NoSpans",true),("TooMany",true),("NoPlan",true),("NoLine",true),("Twice",false),("Taken",false),("NoJob",false),("TooLong",false)]
 tab:=zJ
 exi:=[("Twice","YardError",10,"Twice.__init__",0),("Taken","YardError",11,"Taken.__init__",0),("NoJob","YardError",12,"NoJob.__init__",0),("TooLong","YardError",13,"TooLong.__init__",0)]
end My
def My.y0:PySem.Str:="_law_asked"
lay_quick L4.claimT L4.goalT
open PySem PySem.W in
def My.one1:∀(w:World) (os:OsState),PySem.W.Fast.tw5714632368794931027 My.ask My.y0 20000 PySem.Challenge.pw_dueyard_k06_refused_turns_and_calendars w os=PySem.W.Fast.tw6850149277720968864 My.ask PySem.Challenge.pw_dueyard_k06_refused_turns_and_calendars:=by
 intro w os
 kernel_rfl
open PySem PySem.W in
def My.one:∀(w:World) (os:OsState),L4.claimT My.ask My.y0 20000 PySem.Challenge.pw_dueyard_k06_refused_turns_and_calendars w os=L4.goalT My.ask PySem.Challenge.pw_dueyard_k06_refused_turns_and_calendars:=by
 rw[PySem.W.Fast.te5714632368794931027,PySem.W.Fast.te6850149277720968864];exact My.one1
namespace L3
open PySem L2
def ev:type_of% (zd (zd (zd (zd (zd (zd @L3.fun3.eq_1 (zd @L3.start3.eq_1 @L3.sSeq.eq_1)) (zd (zd @L3.sSet.eq_1 @L3.sRet.eq_1) (zd @L3.sRetS.eq_1 @L3.sRetN.eq_1))) (zd (zd (zd @L3.sIf.eq_1 @L3.sExp.eq_1) (zd @L3.sFz.eq_1 @L3.sAug.eq_1)) (zd (zd @L3.sAsg.eq_1 @L3.sSkip.eq_1) (zd @L3.sNever.eq_1 @L3.gN.eq_1)))) (zd (zd (zd @L3.eV.eq_1 (zd @L3.eC.eq_1 @L3.pV.eq_1)) (zd (zd @L3.pE.eq_1 @L3.eOp.eq_1) (zd @L3.eNeg.eq_1 @L3.eNot.eq_1))) (zd (zd (zd @L3.eAnd.eq_1 @L3.eOr.eq_1) (zd @L3.eIf.eq_1 @L3.eChain.eq_1)) (zd (zd @L3.oEq_int @L3.oNe_int) (zd @L3.nx_ite @L3.rt_ite))))) (zd (zd (zd (zd @L3.ok_ite (zd @L3.cons_ite @L3.some_ite)) (zd (zd @L3.v_ite @L3.int_ite) (zd @L3.bl_ite @ite_self.{1}))) (zd (zd (zd @C4 @and_true) (zd @true_and @and_self)) (zd (zd @L3.eTup.eq_1 @L3.eLst.eq_1) (zd @L3.aCons.eq_1 @L3.aNil.eq_1)))) (zd (zd (zd (zd @L3.eB.eq_1 @L3.isa.eq_1) (zd @L3.eCall.eq_1 @L3.tE.eq_1)) (zd (zd @L3.tP.eq_1 @L3.tTru.eq_1) (zd @L3.tAnd3.eq_1 @L3.tOr3.eq_1))) (zd (zd (zd @L3.tNot3.eq_1 @L3.mtO.eq_1) (zd @L3.at0 @L3.at1)) (zd (zd @L3.at2 @L3.at3) (zd @L3.at4 @Ak.{0,0})))))) (zd (zd (zd (zd (zd @Bf.{0,0} (zd @Ay.{0} @C5.{0})) (zd (zd @D0.{0} @B4.{0}) (zd @Bo.{0} @Dv.{0}))) (zd (zd (zd @Dw.{0} @List.getElem?_nil.{0}) (zd @List.set_cons_zero.{0} @List.set_cons_succ.{0})) (zd (zd @A4.{0,0} @Option.map_none.{0,0}) (zd @Fi.{0,0} @Br)))) (zd (zd (zd @ite_true.{1} (zd @ite_false.{1} @Cb.{1})) (zd (zd @C2.{1} @Bool.not_true) (zd @Bool.not_false @decide_true))) (zd (zd (zd @decide_false @Bu) (zd @A9 @Bool.or_true)) (zd (zd @Bool.or_false @Bool.true_or) (zd @Bool.false_or @Ey.{0}))))) (zd (zd (zd (zd @or_true (zd @true_or @Cg)) (zd (zd @false_or @L3.oAdd_int) (zd @L3.oAddI_int @L3.oSub_int))) (zd (zd (zd @L3.oMul_int @L3.oDiv_int) (zd @L3.oMod_int @L3.oShr_int)) (zd (zd @L3.oPow_int @L3.oAndI_int) (zd @L3.oLt_int @L3.oLe_int)))) (zd (zd (zd (zd @L3.oGt_int @L3.oGe_int) (zd @L3.oIx_tup @L3.oIx_lst)) (zd (zd @L3.oIx_scr @L3.sMt_ap) (zd @L3.mAppend_ok @L3.sz0))) (zd (zd (zd @L3.sz1 @L3.sz2) (zd @L3.sz3 @L3.sz4)) (zd (zd @L3.sz5 @L3.gb.eq_1) (zd @Int.cast_ofNat_Int @Dq))))))):=(zd (zd (zd (zd (zd (zd @L3.fun3.eq_1 (zd @L3.start3.eq_1 @L3.sSeq.eq_1)) (zd (zd @L3.sSet.eq_1 @L3.sRet.eq_1) (zd @L3.sRetS.eq_1 @L3.sRetN.eq_1))) (zd (zd (zd @L3.sIf.eq_1 @L3.sExp.eq_1) (zd @L3.sFz.eq_1 @L3.sAug.eq_1)) (zd (zd @L3.sAsg.eq_1 @L3.sSkip.eq_1) (zd @L3.sNever.eq_1 @L3.gN.eq_1)))) (zd (zd (zd @L3.eV.eq_1 (zd @L3.eC.eq_1 @L3.pV.eq_1)) (zd (zd @L3.pE.eq_1 @L3.eOp.eq_1) (zd @L3.eNeg.eq_1 @L3.eNot.eq_1))) (zd (zd (zd @L3.eAnd.eq_1 @L3.eOr.eq_1) (zd @L3.eIf.eq_1 @L3.eChain.eq_1)) (zd (zd @L3.oEq_int @L3.oNe_int) (zd @L3.nx_ite @L3.rt_ite))))) (zd (zd (zd (zd @L3.ok_ite (zd @L3.cons_ite @L3.some_ite)) (zd (zd @L3.v_ite @L3.int_ite) (zd @L3.bl_ite @ite_self.{1}))) (zd (zd (zd @C4 @and_true) (zd @true_and @and_self)) (zd (zd @L3.eTup.eq_1 @L3.eLst.eq_1) (zd @L3.aCons.eq_1 @L3.aNil.eq_1)))) (zd (zd (zd (zd @L3.eB.eq_1 @L3.isa.eq_1) (zd @L3.eCall.eq_1 @L3.tE.eq_1)) (zd (zd @L3.tP.eq_1 @L3.tTru.eq_1) (zd @L3.tAnd3.eq_1 @L3.tOr3.eq_1))) (zd (zd (zd @L3.tNot3.eq_1 @L3.mtO.eq_1) (zd @L3.at0 @L3.at1)) (zd (zd @L3.at2 @L3.at3) (zd @L3.at4 @Ak.{0,0})))))) (zd (zd (zd (zd (zd @Bf.{0,0} (zd @Ay.{0} @C5.{0})) (zd (zd @D0.{0} @B4.{0}) (zd @Bo.{0} @Dv.{0}))) (zd (zd (zd @Dw.{0} @List.getElem?_nil.{0}) (zd @List.set_cons_zero.{0} @List.set_cons_succ.{0})) (zd (zd @A4.{0,0} @Option.map_none.{0,0}) (zd @Fi.{0,0} @Br)))) (zd (zd (zd @ite_true.{1} (zd @ite_false.{1} @Cb.{1})) (zd (zd @C2.{1} @Bool.not_true) (zd @Bool.not_false @decide_true))) (zd (zd (zd @decide_false @Bu) (zd @A9 @Bool.or_true)) (zd (zd @Bool.or_false @Bool.true_or) (zd @Bool.false_or @Ey.{0}))))) (zd (zd (zd (zd @or_true (zd @true_or @Cg)) (zd (zd @false_or @L3.oAdd_int) (zd @L3.oAddI_int @L3.oSub_int))) (zd (zd (zd @L3.oMul_int @L3.oDiv_int) (zd @L3.oMod_int @L3.oShr_int)) (zd (zd @L3.oPow_int @L3.oAndI_int) (zd @L3.oLt_int @L3.oLe_int)))) (zd (zd (zd (zd @L3.oGt_int @L3.oGe_int) (zd @L3.oIx_tup @L3.oIx_lst)) (zd (zd @L3.oIx_scr @L3.sMt_ap) (zd @L3.mAppend_ok @L3.sz0))) (zd (zd (zd @L3.sz1 @L3.sz2) (zd @L3.sz3 @L3.sz4)) (zd (zd @L3.sz5 @L3.gb.eq_1) (zd @Int.cast_ofNat_Int @Dq)))))))
end L3
local macro_rules | `(tactic| simp![$xs,*] $[$l]?)=> `(tactic| simp only[L3.kJ,L3.fun3,L3.start3,L3.O3.res,L3.sSeq,L3.sSet,L3.sRet,L3.sRetS,L3.sRetN,L3.sIf,L3.sExp,L3.sFz,L3.sAug,L3.sAsg,L3.sSkip,L3.sNever,L3.gN,L3.gT,L3.gL,L3.gsCons,L3.gsNil,L3.eV,L3.eC,L3.pV,L3.pE,L3.eOp,L3.eNeg,L3.eNot,L3.eAnd,L3.eOr,L3.eIf,L3.eChain,L3.oEq_int,L3.oNe_int,L3.nx_ite,L3.rt_ite,L3.ok_ite,L3.cons_ite,L3.some_ite,L3.v_ite,L3.int_ite,L3.bl_ite,ite_self,C4,and_true,true_and,and_self,L3.oIsN,L3.eTup,L3.eLst,L3.aCons,L3.aNil,L3.vals3,L3.eB,L3.bLen,L3.bMax,L3.bMin,L3.bMin3,L3.bInt,L3.bList,L3.bIsT,L3.ty3,L3.isa,L3.eCall,L3.opt,L3.Res.bind,L3.Res.bindS,L3.Vl.fz,L3.C3.fz,L3.tE,L3.tP,L3.tru3,L3.tTru,L3.tAnd3,L3.tOr3,L3.tNot3,L3.rdl,L3.rdm,L3.mtO,L3.wr3,L3.at0,L3.at1,L3.at2,L3.at3,L3.at4,Ak,Bf,Ay,C5,List.replicate,D0,B4,Bo,Dv,Dw,List.getElem?_nil,List.set_cons_zero,List.set_cons_succ,A4,Option.map_none,Fi,Nat.reduceSub,Nat.reduceAdd,Nat.reduceLT,Nat.reduceEqDiff,Nat.reduceLeDiff,Br,reduceIte,ite_true,ite_false,Cb,C2,Bool.not_true,Bool.not_false,decide_true,decide_false,Bu,A9,Bool.or_true,Bool.or_false,Bool.true_or,Bool.false_or,Ey,String.reduceEq,String.reduceBEq,or_true,true_or,Cg,false_or,reduceCtorEq,Int.reduceLT,Int.reduceLE,Int.reduceNeg,L3.oAdd_int,L3.oAddI_int,L3.oSub_int,L3.oMul_int,L3.oDiv_int,L3.oMod_int,L3.oShr_int,L3.oPow_int,L3.oAndI_int,L3.oLt_int,L3.oLe_int,L3.oGt_int,L3.oGe_int,L3.oIx_tup,L3.oIx_lst,L3.oIx_scr,L3.sMt_ap,L3.mAppend_ok,L3.sz0,L3.sz1,L3.sz2,L3.sz3,L3.sz4,L3.sz5,L3.gb,Int.cast_ofNat_Int,Int.reduceEq,Dq,$xs,*] $[$l]?)
namespace L3
open PySem L2
def tx (l:List Nat):Str:=⟨l.toArray⟩
def Ml (l:List Nat):(tx l).length=l.length:=by simp[tx,Str.length]
def S8 (z:Str):tx z.cps.toList=z:=by simp[tx]
def S9 (a b:List Nat):tx a++tx b=tx (a++b):=by
 show Str.append (tx a) (tx b)=_;simp[Str.append,tx]
def SA {s:S3} {h:H3} {a b:List Nat} (hl:a.length+b.length<=sizeLine):zk s h (.x (.str (tx a))) (.x (.str (tx b)))=some (.v (.str (tx (a++b)))):=by
 unfold zk yV BO oI BP;simp only[Ml,Aa hl,S9]
def Hj {n:Nat} {fr:List Nat} {a:A3} {g:G3} {e:E3} {s:S3} {h:H3} {j:Int} (I:S3->Prop) (f:Nat->V3) (ea:a s h=.ok [.x (.int j)] h) (hj: -1000000<=j/\j<=1000000)
  (h0:I (yC n fr s)) (step:∀(k:Nat) s,k<j.toNat->I s->∃s1 r,g (.int (k:Int)) s=some s1/\I s1/\e s1 h=.ok r h/\r.fz=some (f k)):
  qf n fr (qt a) g tTru e s h=.ok (.m (.lst ((List.range j.toNat).map f))) h:=by
 have hj2: -(2 ^ 62)<=j/\j<2 ^ 62:=by lia
 have:=Lk (ok:=fun _=>True) (g:=g) (e:=e) (h:=h) I (fun k:Nat=>V3.int (0+(k:Int))) f trivial (l:=List.range j.toNat) (by rw[List.length_range];have:=yL;lia)
  (fun k s hk hI=>by rw[Int.zero_add];exact step k s (by simpa using hk) hI) h0
 unfold qf qt;simp only[ea,Res.bind,Aa hj2,this]
def Hk {α:Type} {n:Nat} {fr:List Nat} {p:P3} {g:G3} {e:E3} {s:S3} {h:H3} {x:V3} {ok:H3->Prop} {enc:α->V3} {l:List α} (I:S3->Prop) (f:α->V3) (ep:p s h=.ok (.x x) h)
  (hw:y9 h x=some (l.map enc,ok)) (hl:l.length<=1000000) (h0:I (yC n fr s)) (step:∀a s,a∈l->I s->∃s1 r,g (enc a) s=some s1/\I s1/\e s1 h=.ok r h/\r.fz=some (f a)):
  qf n fr (iL p) g tTru e s h=.ok (.m (.lst (l.map f))) h:=by
 have:=Lk (ok:=ok) (g:=g) (e:=e) (h:=h) I enc f (EE hw).1 (l:=l) (by have:=yL;lia) step h0
 unfold qf iL;simp only[ep,Res.bind,hw,this]
def FS {s:S3} {h:H3} {q:List Bool->Bool} {bs:List Bool}:bAll q s h [.x (.lst (bs.map .bl))]=some (.v (.bl (q bs))):=by
 unfold bAll;simp only[rdl,QP,A4]
def SB {α:Type} {it:I3} {g:G3} {b:D3} {s:S3} {h:H3} {its:List V3} {ok:H3->Prop} {enc:α->V3} {l:List α} (ei:it s h=.ok ⟨its,l.map enc,ok⟩ h) (hok:ok h)
  (I:Nat->S3->Prop) (h0:I 0 s) (step:∀(i:Nat) a s,l[i]? =some a->I i s->∃s2,gb g b (enc a) s h=.nx s2 h/\I (i+1) s2):∃s',zI it g b s h=.nx s' h/\I l.length s':=by
 have hf:zI it g b s h=zR ok g b (l.map enc) s h:=by
  unfold zI;simp only[ei,Res.bindS]
 rw[hf];have:=Im (ok:=ok) (g:=g) (b:=b) (h:=h) I (xs:=l.map enc) (s:=s) hok h0 fun i x s hx hI=>by
  rw[Bl]at hx;obtain⟨a,ha,rfl⟩:=Fj.1 hx;obtain⟨s2,e,hI2⟩:=step i a s ha hI;unfold gb at e;cases q:g (enc a) s with
  |none=>rw[q]at e;cases e
  |some s1=>rw[q]at e;exact⟨s1,s2,rfl,e,hI2⟩
 rwa [Ap]at this
def it_R {Q:Res Vl->Prop} {α:Type} {it:I3} {g:G3} {b r:D3} {s:S3} {h:H3} {its:List V3} {ok:H3->Prop} {enc:α->V3} {l:List α} (ei:it s h=.ok ⟨its,l.map enc,ok⟩ h) (hok:ok h)
  (I:Nat->S3->Prop) (h0:I 0 s) (step:∀(i:Nat) a s,l[i]? =some a->I i s->∃s2,gb g b (enc a) s h=.nx s2 h/\I (i+1) s2) (k:∀s',I l.length s'->Q ((r s' h).res)):Q ((sSeq (zI it g b) r s h).res):=by
 obtain⟨s',e,hI⟩:=SB ei hok I h0 step;rw[GQ e];exact k s' hI
noncomputable abbrev ze (p:Int×Int):V3:= .tup [.int p.1,.int p.2]
noncomputable def yp (p:Int×Int):List zw:=[.inl p.1,.inl p.2]
def SC {s:S3} {h:H3} {ns:List Int} (hl:ns.length<=100000):BY s h [.x (.lst (ns.map .int))]=some (.m (.lst ((EH ns).map .int))):=by
 unfold BY EI;simp only[rdl,QO,Aa hl,A4]
def SD (l:List (Int×Int)):zN row3 (l.map ze)=some (l.map yp):=GF (f:=row3) (g:=ze) (k:=yp) (fun p=>rfl) l
theorem Mm:∀{rs:List (List zw)} {l:List (Int×Int)},(∀r∈rs,∃p∈l,r=yp p)->∃qs:List (Int×Int),rs=qs.map yp
 | [],_,_=>⟨[],rfl⟩
 |r::rs,l,h=>by
  obtain⟨p,_,e⟩:=h r Ax;obtain⟨qs,e2⟩:=Mm (rs:=rs) (l:=l) fun x hx=>h x (A1 _ hx)
  exact⟨p::qs,by rw[e,e2];rfl⟩
noncomputable def bk (r:List zw):Int×Int:=match r with
 | [.inl a,.inl b]=>(a,b)
 |_=>(0,0)
def SG (s:S3) (h:H3) (l:List (Int×Int)) (hl:l.length<=100000):∃rs:List (Int×Int),BY s h [.x (.lst (l.map ze))]=some (.m (.lst (rs.map ze)))/\rs.Perm l/\rs.Pairwise (fun a b=>a.1<=b.1):=by
  cases l with
  |nil=>
           refine⟨[],?_,.refl _,.nil⟩
           have:=SC (s:=s) (h:=h) (ns:=[]) (by simp)
           simpa[EH] using this
  |cons p l=>
    obtain⟨h1,h2⟩:=Ia ((p::l).map yp);obtain⟨qs,e⟩:=Mm (rs:=GH ((p::l).map yp)) (l:=p::l) fun r hr=>by
      obtain⟨q,hq,rfl⟩:=C7.1 (h1.mem_iff.1 hr);exact⟨q,hq,rfl⟩
    have hp:qs.Perm (p::l):=by
      have:=(e ▸ h1).map bk;rw[Cv,Cv]at this;have e1:bk∘yp=id:=rfl;rw[e1,D1,D1]at this;exact this
    refine⟨qs,?_,hp,?_⟩
    · have hi:zN int3 ((p::l).map ze)=none:=rfl
      have ha:GI ((p::l).map yp)=true:=by
        simp[GI,qc,yp]
      unfold BY EI;simp only[rdl,hi,SD];rw[Aa ⟨by rw[Ap];exact hl,ha⟩,e,Cv]
      rfl
    · rw[e,List.pairwise_map]at h2
      refine h2.imp fun {a b} q=>?_
      have q:lexK (yp b) (yp a)=false:=q
      refine Int.not_lt.1 fun z=>?_
      have ne:(Sum.inl b.1:zw)≠Sum.inl a.1:=fun e=>by have:=Sum.inl.inj e;lia
      have:lexK (yp b) (yp a)=y4 (.inl b.1) (.inl a.1):=by
        show lexK (Sum.inl b.1::_) (Sum.inl a.1::_)=_;rw[lexK,Ab ne]
      rw[this]at q;simp[y4]at q;lia
def Is (h:H3) (r:Vl) (R:Res Vl):Prop:=R=.ok r h
def Jb {s:S3} {h:H3} {i:Nat} {j:Int}:zD s h (.s i) (.x (.int j))=match s[i]? with
  |some (some (.m (.lst xs)))=>(atI xs j).map .v
  |_=>none:=by
 unfold zD yV oIxT oIxL oIxS;simp only[rdl];generalize s[i]? =o
 match o with
 |none=>rfl
 |some none=>rfl
 |some (some (.v _))=>rfl
 |some (some (.m (.lst xs)))=>simp only[];cases atI xs j<;>rfl
 |some (some (.m (.dK _)))=>rfl
 |some (some (.m (.dT _)))=>rfl
 |some (some (.m (.ins _ _)))=>rfl
 |some (some (.m .dead))=>rfl
 |some (some (.m .tab))=>rfl
 |some (some (.m .tb2))=>rfl
def Jc {s:S3} {h:H3} {i:Nat} {l:List V3} {x:V3} (e:s[i]? =some (some (.m (.lst (l++[x]))))):zD s h (.s i) (.x (.int (-1)))=some (.v x):=by
 rw[Jb,e];simp only[atm1,A4]
def Jd {α β:Type} {l:List α} {f:α->β}:(l.map f).isEmpty=l.isEmpty:=by cases l<;>rfl
def Je {α:Type} {l:List α} {n:Nat} {x y:α} (h:l.length=n):(l++[x]).set n y=l++[y]:=by
 subst h;rw[List.set_append_right _ _ (Nat.le_refl _)];simp
def Jf {α:Type} {l:List α} {i:Nat} {a:α} (h:l[i]? =some a):l.drop i=a::l.drop (i+1):=by
 obtain⟨hi,rfl⟩:=Aq.1 h;exact Ef hi
def SH {α:Type} (xs:List α) (k:Nat):cutL xs (some (k:Int)) none=xs.drop k:=by
 unfold cutL HT.sIx;have h1: ¬((k:Int)<0):=by lia
 simp only[Ab h1,Fl]
 by_cases hk:k<=xs.length
 .rw[Nat.min_eq_left hk,Fd (by simp)]
 .rw[Nat.min_eq_right (by lia),Cu,Eg (by lia)];simp
def SI {α:Type} (xs:List α) (k:Nat):cutL xs none (some (k:Int))=xs.take k:=by
 unfold cutL HT.sIx;have h1: ¬((k:Int)<0):=by lia
 simp only[Ab h1,Fl,Du,Nat.sub_zero];rw[List.take_eq_take_iff];lia
theorem Jg {f:V3->V3->Option Bool}:∀{xs:List V3},(∀x∈xs,f x x=some true)->yR f xs xs=some true
 | [],_=>rfl
 |x::r,h=>by simp only[yR,h x Ax,Jg (xs:=r) fun y hy=>h y (A1 _ hy),Bool.and_self]
def Mn {s:S3} {h:H3} {f g:Rf} {xs:List V3} (hf:rdm s h f=some xs) (hg:rdm s h g=some xs) (hx:∀x∈xs,ya h 8 x x=some true):qB s h f g=some true:=by
 unfold qB;rw[hf,hg];simp only[Cb,Jg hx]
def SJ {s:S3} {h:H3} {f g:Rf} {xs:List V3} (hf:rdm s h f=some xs) (hg:rdm s h g=some xs) (hx:∀x∈xs,ya h 8 x x=some true):yO s h f g=some (.v (.bl false)):=by
 unfold yO;rw[Mn hf hg hx];rfl
def Mo {s:S3} {h:H3} {f g:Rf} {xs:List V3} (hf:rdm s h f=some xs) (hg:rdm s h g=some xs) (hx:∀x∈xs,ya h 8 x x=some true):z9 s h f g=some (.v (.bl true)):=by
 unfold z9;rw[Mn hf hg hx];rfl
def SK {h:H3} {n:Nat} {xs:List V3} (hx:∀x∈xs,ya h n x x=some true):ya h (n+1) (.tup xs) (.tup xs)=some true:=by
 simp only[ya,yT];rw[Jg hx];simp
def SL {s:S3} {h:H3} {i j:Str}:yO s h (.x (.str i)) (.x (.str j))=some (.v (.bl (!decide (i=j)))):=by
 unfold yO qB;simp only[rdm,rdl,QR,A4]
def FT {s:S3} {h:H3} {xs:List V3}:rdm s h (.x (.lst xs))=some xs:=rfl
def SM {s:S3} {h:H3} {i:Nat} {xs:List V3} (e:s[i]? =some (some (.m (.lst xs)))):rdm s h (.s i)=some xs:=by
 show rdl s h (.s i)=_;simp only[rdl,e]
def IsL (h:H3) (x:V3) (xs:List V3):Prop:=x=.lst xs\/∃n,x=.loc n/\h[n]? =some (.lst xs)
def IsL.walk {h:H3} {x:V3} {xs:List V3} (l:IsL h x xs):∃ok,y9 h x=some (xs,ok):=by
 rcases l with rfl|⟨n,rfl,e⟩
 .exact⟨_,rfl⟩
 .exact⟨_,by simp only[y9,e];rfl⟩
def SN {Q:Res Vl->Prop} {ok:H3->Prop} {g:G3} {b r:D3} {α:Type} {enc:α->V3} {l:List α} (I:Nat->S3->H3->Prop) (hok:∀i s h,I i s h->ok h)
  (step:∀(i:Nat) a s h,l[i]? =some a->I i s h->(∃s2 h2,(gb g b (enc a) s h=.nx s2 h2\/gb g b (enc a) s h=.ct s2 h2)/\I (i+1) s2 h2)\/(∃v h2,gb g b (enc a) s h=.rt v h2/\Q (.ok v h2))\/∃s2 h2,gb g b (enc a) s h=.bk s2 h2/\Q ((r s2 h2).res))
  (k:∀s' h',I l.length s' h'->Q ((r s' h').res)):∀(n i:Nat) (s:S3) (h:H3),l.length-i=n->i<=l.length->I i s h->Q ((match zR ok g b ((l.drop i).map enc) s h with | .nx s h=>r s h|o=>o).res):=by
 intro n
 induction n with
 |zero=>
  intro i s h hn hi hI;have e:i=l.length:=by lia
  subst e;rw[Cu,Bf];unfold zR;rw[Aa (hok _ _ _ hI)];exact k s h hI
 |succ n ih=>
  intro i s h hn hi hI;have hil:i<l.length:=by lia
  rw[Jf (z0 hil),Ak];unfold zR;rw[Aa (hok _ _ _ hI)];have st:=step i l[i] s h (z0 hil) hI;unfold gb at st;cases q:g (enc l[i]) s with
  |none=>simp only[q]at st;rcases st with ⟨_,_,z|z,_⟩|⟨_,_,z,_⟩|⟨_,_,z,_⟩<;>cases z
  |some s1=>
   simp only[q]at st ⊢
   rcases st with ⟨s2,h2,z|z,hI2⟩|⟨v,h2,z,hq⟩|⟨s2,h2,z,hq⟩
   .rw[z];exact ih (i+1) s2 h2 (by lia) hil hI2
   .rw[z];exact ih (i+1) s2 h2 (by lia) hil hI2
   .rw[z];exact hq
   .rw[z];exact hq
def it_E {Q:Res Vl->Prop} {α:Type} {it:I3} {g:G3} {b r:D3} {s:S3} {h:H3} {its:List V3} {ok:H3->Prop} {enc:α->V3} {l:List α} (ei:it s h=.ok ⟨its,l.map enc,ok⟩ h)
  (I:Nat->S3->H3->Prop) (hok:∀i s h,I i s h->ok h) (h0:I 0 s h)
  (step:∀(i:Nat) a s h,l[i]? =some a->I i s h->(∃s2 h2,(gb g b (enc a) s h=.nx s2 h2\/gb g b (enc a) s h=.ct s2 h2)/\I (i+1) s2 h2)\/(∃v h2,gb g b (enc a) s h=.rt v h2/\Q (.ok v h2))\/∃s2 h2,gb g b (enc a) s h=.bk s2 h2/\Q ((r s2 h2).res))
  (k:∀s' h',I l.length s' h'->Q ((r s' h').res)):Q ((sSeq (zI it g b) r s h).res):=by
 have:=SN (Q:=Q) (r:=r) I hok step k _ 0 s h rfl (B9 _) h0;unfold sSeq zI;simp only[ei,Res.bindS];rw[Du]at this;exact this
end L3
namespace Cal
abbrev P:=Int×Int
noncomputable def pk (rest:Int):Int->Int->List P->List P
 |a,c,[]=>if c=rest then [] else [(a,c)]
 |a,c,p::r=>if p.2=c then pk rest (a+p.1) c r else (a,c)::pk rest p.1 p.2 r
def kform (rest:Int):List P->List P
 | []=>[]
 |p::r=>pk rest p.1 p.2 r
noncomputable def nstep (acc:List P) (r:P):List P:=
 match acc.getLast? with
 |some l=>if l.2=r.2 then acc.dropLast++[(l.1+r.1,r.2)] else acc++[r]
 |none=>acc++[r]
def SO {acc:List P} {l:P} (h:acc.getLast? =some l) (r:P):nstep acc r=if l.2=r.2 then acc.dropLast++[(l.1+r.1,r.2)] else acc++[r]:=by
 unfold nstep;rw[h]
def nstep_snoc (i:List P) (l r:P):nstep (i++[l]) r=if l.2=r.2 then i++[(l.1+r.1,r.2)] else (i++[l])++[r]:=by
 rw[SO (l:=l) (by simp)]
 simp
noncomputable def drp (rest:Int) (t:List P):List P:=
 match t.getLast? with
 |some l=>if l.2=rest then t.dropLast else t
 |none=>t
def drp_last {rest:Int} {t:List P} {l:P} (h:t.getLast? =some l):drp rest t=if l.2=rest then t.dropLast else t:=by
 unfold drp;rw[h]
def drp_empty {rest:Int} {t:List P} (h:t=[]):drp rest t=t:=by rw[h];rfl
theorem Jh (rest:Int):∀(r i:List P) (a c:Int),drp rest (r.foldl nstep (i++[(a,c)]))=i++pk rest a c r
 | [],i,a,c=>by
  rw[List.foldl_nil,drp_last (l:=(a,c)) (by simp)]
  unfold pk
  by_cases h:c=rest
  .rw[Aa h,Aa h];simp
  .rw[Ab h,Ab h]
 |p::r,i,a,c=>by
  rw[Dh,nstep_snoc];unfold pk
  by_cases h:c=p.2
  .rw[Aa h,Aa h.symm]
   have:=Jh rest r i (a+p.1) p.2;rw[<-h]at this ⊢;exact this
  .rw[Ab h,Ab (Av h)]
   have:=Jh rest r (i++[(a,c)]) p.1 p.2;rw[this,Aw];rfl
def kept_eq (rest:Int) (rows:List P):drp rest (rows.foldl nstep [])=kform rest rows:=by
 cases rows with
 |nil=>rfl
 |cons p r=>exact Jh rest r [] p.1 p.2
end Cal
namespace Sp
abbrev P:=Int×Int
noncomputable def mstep (acc:List P) (r:P):List P:=
 match acc.getLast? with
 |some l=>if r.1<=l.2+1 then acc.dropLast++[(l.1,if r.2 > l.2 then r.2 else l.2)] else acc++[r]
 |none=>acc++[r]
def mstep_snoc (i:List P) (l r:P):mstep (i++[l]) r=if r.1<=l.2+1 then i++[(l.1,if r.2 > l.2 then r.2 else l.2)] else (i++[l])++[r]:=by
 unfold mstep;rw[List.getLast?_append]
 simp
def mrg (rows:List P):List P:=rows.foldl mstep []
end Sp
namespace My
open PySem L2 L3
noncomputable def mix (c k:Int):Int:=(c%2147483647*48271+69621*k)%2147483647
def FU (c k:Int):0<=mix c k/\mix c k<2147483647:=⟨Int.emod_nonneg _ (by decide),Int.emod_lt_of_pos _ (by decide)⟩
def FV (c k:Int) (h:H3):f_law_mixed [.int c,.int k] h=.ok (.v (.int (mix c k))) h:=by
 have c1:CMul 69621 k:=GR ⟨by decide,by decide⟩
 have c2:CMul (c%2147483647) 48271:=QQ ⟨by decide,by decide⟩
 simp![f_law_mixed,Iw,c1,c2,mix]
noncomputable def cell (ns:List Int) (k:Nat):Int:=(ns[k]?).getD 0
def CI (ns:List Int) (k:Nat) (h:H3):f_law_cell_at [.scr ns,.int k] h=.ok (.v (.int (cell ns k))) h:=by
 by_cases hk:k<ns.length
 .have hl:((k:Int)<(ns.length:Int)):=by lia
  have ha:atI (ns.map V3.int) (k:Int)=some (.int ns[k]):=AC (j:=k) (by rw[Bl,z0 hk];rfl)
  have hc:cell ns k=ns[k]:=by unfold cell;rw[z0 hk];rfl
  simp![f_law_cell_at,GW,Ap,hl,ha,hc]
 .have hl: ¬((k:Int)<(ns.length:Int)):=by lia
  have hc:cell ns k=0:=by unfold cell;rw[Ea (by lia)];rfl
  simp![f_law_cell_at,GW,Ap,hl,hc]
inductive Sv:V3->Prop
 |int (i:Int):Sv (.int i)
 |bl (b:Bool):Sv (.bl b)
 |non:Sv .non
 |str (z:Str):Sv (.str z)
 |lst (xs:List V3):Sv (.lst xs)
 |tup (xs:List V3):Sv (.tup xs)
 |dct:Sv (.dT [])
noncomputable def zy (lo hi:Int):V3->Bool
 |.int i=>decide (lo<=i) && decide (i<=hi)
 |_=>false
def qg {lo hi i:Int} (h1:lo<=i) (h2:i<=hi):zy lo hi (.int i)=true:=by show (decide (lo<=i) && decide (i<=hi))=true;rw[Bp h1,Bp h2];rfl
def Hl {lo hi i:Int} (h:i<lo\/hi<i):zy lo hi (.int i)=false:=by
 show (decide (lo<=i) && decide (i<=hi))=false
 rcases h with h|h
 .rw[A6 (by lia),A9]
 .rw[A6 (show ¬i<=hi by lia),C9]
def BH {lo hi:Int} {v:V3} (h:zy lo hi v=true):∃i,v=.int i/\lo<=i/\i<=hi:=by
 cases v<;>simp only[zy,Dq]at h
 case int i=>
  rw[As,C4,C4]at h;exact⟨i,rfl,h.1,h.2⟩
def Hn {v:V3} (hv:Sv v) (h:H3):f_is_whole [v] h=.ok (.v (.bl (match v with | .int _=>true|_=>false))) h:=by
 cases hv<;>(simp![f_is_whole,IC])<;>rfl
def DI {v:V3} (hv:Sv v) (lo hi:Int) (h:H3):f_is_whole_between [v,.int lo,.int hi] h=.ok (.v (.bl (zy lo hi v))) h:=by
 have w:=Hn hv h;cases hv with
 |int i=>
  unfold zy
  by_cases h1:lo<=i
  ·(simp![f_is_whole_between,FD,w,h1,Bp h1,Bu])<;>rfl
  ·(simp![f_is_whole_between,FD,w,h1,A6 h1,A9])<;>rfl
 |_=>(simp![f_is_whole_between,FD,w])<;>rfl
def Mp {v:V3} (hv:Sv v) (h:H3):f_is_machines [v] h=.ok (.v (.bl (zy 0 16 v))) h:=by
 (simp![f_is_machines,IH,DI hv])<;>rfl
def SQ {v:V3} (hv:Sv v) (h:H3):f_is_rest [v] h=.ok (.v (.bl (zy 1 16 v))) h:=by
 (simp![f_is_rest,II,DI hv])<;>rfl
def Ji {v:V3} (hv:Sv v) (h:H3):f_is_turn [v] h=.ok (.v (.bl (zy 0 10000000000 v))) h:=by
 (simp![f_is_turn,ID,DI hv])<;>rfl
noncomputable def leB:V3->V3->Bool
 |.int a,.int b=>decide (a<=b)
 |_,_=>false
def zP:V3->Bool
 |.tup [a,b]=>zy 0 10000000000 a && (zy 0 10000000000 b && leB a b)
 |_=>false
def zK:V3->Bool
 |.tup [a,b]=>zy 1 1000000 a && zy 0 16 b
 |_=>false
structure Rv (v:V3):Prop where
 s:Sv v
 p:∀a b,v=.tup [a,b]->Sv a/\Sv b
def len2 {xs:List V3} (h: ¬((xs.length:Int)=2)):zP (.tup xs)=false/\zK (.tup xs)=false:=by
 match xs,h with
 | [],_=>exact⟨rfl,rfl⟩
 | [_],_=>exact⟨rfl,rfl⟩
 | [_,_],h=>exact absurd rfl h
 |_::_::_::_,_=>exact⟨rfl,rfl⟩
def two {xs:List V3} (h:(xs.length:Int)=2):∃a b,xs=[a,b]:=by
 match xs,h with
 | [a,b],_=>exact⟨a,b,rfl⟩
 | [],h=>cases h
 | [_],h=>cases h
 |_::_::_::_,h=>simp at h;lia
def SR {v:V3} (hv:Rv v) (h:H3):f_is_row [v] h=.ok (.v (.bl (zP v))) h:=by
 cases hv.s with
 |tup xs=>
  by_cases hl:(xs.length:Int)=2
  .obtain⟨a,b,rfl⟩:=two hl
   obtain⟨sa,sb⟩:=hv.p a b rfl;have e1:=Ji sa h;have e2:=Ji sb h;unfold zP;cases q1:zy 0 10000000000 a with
   |false=>rw[q1]at e1;(simp![f_is_row,CH,e1,q1,A9])<;>rfl
   |true=>
    rw[q1]at e1;cases q2:zy 0 10000000000 b with
    |false=>rw[q2]at e2;(simp![f_is_row,CH,e1,e2,q1,q2,A9,Bu])<;>rfl
    |true=>
     rw[q2]at e2;obtain⟨i,rfl,_⟩:=BH q1;obtain⟨j,rfl,_⟩:=BH q2
     (simp![f_is_row,CH,e1,e2,q1,q2,Bu,leB])<;>rfl
  .rw[(len2 hl).1]
   (simp![f_is_row,CH,hl])<;>rfl
 |_=>(simp![f_is_row,CH])<;>rfl
def SS {v:V3} (hv:Rv v) (h:H3):f_is_calendar_row [v] h=.ok (.v (.bl (zK v))) h:=by
 cases hv.s with
 |tup xs=>
  by_cases hl:(xs.length:Int)=2
  .obtain⟨a,b,rfl⟩:=two hl
   obtain⟨sa,sb⟩:=hv.p a b rfl;have e1:=DI sa 1 1000000 h;have e2:=Mp sb h;unfold zK;cases q1:zy 1 1000000 a with
   |false=>rw[q1]at e1;(simp![f_is_calendar_row,DG,e1,q1,A9])<;>rfl
   |true=>rw[q1]at e1;(simp![f_is_calendar_row,DG,e1,e2,q1,Bu])<;>rfl
  .rw[(len2 hl).2]
   (simp![f_is_calendar_row,DG,hl])<;>rfl
 |_=>(simp![f_is_calendar_row,DG])<;>rfl
noncomputable def shB (n:Nat):V3->Bool
 |.lst xs=>decide (xs.length<=n)
 |_=>false
def Mq {v:V3} (hv:Sv v) (h:H3):f_is_short_list [v] h=.ok (.v (.bl (shB 200 v))) h:=by
 cases hv with
 |lst xs=>
  show _=Res.ok (Vl.v (V3.bl (decide (xs.length<=200)))) h
  by_cases hl:xs.length<=200
  .have hl':(xs.length:Int)<=200:=by lia
   rw[Bp hl]
   (simp![f_is_short_list,FC,hl'])<;>rfl
  .have hl': ¬(xs.length:Int)<=200:=by lia
   rw[A6 hl]
   (simp![f_is_short_list,FC,hl'])<;>rfl
 |_=>(simp![f_is_short_list,FC])<;>rfl
def SU (i:List (Int×Int)) (l r:Int×Int):Sp.mstep (i++[l]) r=if r.1<=l.2+1 then i++[(l.1,max l.2 r.2)] else (i++[l])++[r]:=by
 rw[Sp.mstep_snoc,show (if r.2 > l.2 then r.2 else l.2)=max l.2 r.2 by split<;>lia]
def Mr (l:List (Int×Int)) (hl:l.length<=10000) (h:H3):∃rs:List (Int×Int),f_merged [.lst (l.map ze)] h=.ok (.m (.lst ((Sp.mrg rs).map ze))) h/\rs.Perm l/\rs.Pairwise (fun a b=>a.1<=b.1):=by
 obtain⟨rs,es,hp,hs⟩:=SG [some (.v (.lst (l.map ze))),some (.m (.lst [])),none,none] h l (by lia)
 have hrl:rs.length<=10000:=by rw[hp.length_eq];exact hl
 refine⟨rs,?_,hp,hs⟩
 show Is h _ _;unfold f_merged IB IA
 refine BE rfl ?_
 refine zO (by (simp![])<;>rfl) ?_
 refine it_R (l:=rs) (enc:=ze) (its:=[.lst (rs.map ze)]) (ok:=fun _=>True) (by (simp![iL,es,y9])<;>rfl) trivial (fun i s=> ∃acc x2 x3,s=[some (.v (.lst (l.map ze))),some (.m (.lst (acc.map ze))),x2,x3]/\acc.length<=i/\(rs.drop i).foldl Sp.mstep acc=Sp.mrg rs) ⟨[],none,none,rfl,by simp,rfl⟩ ?_ ?_
 .rintro i p s hi ⟨acc,x2,x3,rfl,ha,hI⟩
  rw[Jf hi,Dh]at hI;have hil:i<rs.length:=(Aq.1 hi).1;have c3:acc.length<sizeLine:=by have:=yL;lia
  rcases Ge acc with rfl|⟨ini,q,rfl⟩
  .refine⟨_,by (simp![Jd,List.isEmpty_nil])<;>rfl,⟨[(p.1,p.2)],_,_,rfl,by simp,?_⟩⟩
   rw[<-hI];rfl
  .rw[Eo,SU]at hI
   rw[Eo]at c3 ha ⊢;rw[By,Ak,Bf];rw[An,D8]at ha;have e1:∀(h:H3) (x0 x2 x3:Option Vl),zD [x0,some (.m (.lst (ini.map ze++[ze q]))),x2,x3] h (.s 1) (.x (.int (-1)))=some (.v (ze q)):=fun h x0 x2 x3=>Jc rfl
   have c4:ini.length+1<sizeLine:=by simpa using c3
   have ne:(ini.map ze++[ze q]).isEmpty=false:=by simp
   have e2:qb (ini.length+1) (-1)=some ini.length:=by
    unfold qb;rw[Ab (by decide),Aa (by lia)]
    congr 1;lia
   by_cases hq:p.1<=q.2+1
   .rw[Aa hq]at hI
    refine⟨_,by (simp![ne,e1,hq,CV,An,Ap,e2])<;>rfl,⟨ini++[(q.1,max q.2 p.2)],some (.v (.int p.1)),some (.v (.int p.2)),?_,by simpa using by lia,hI⟩⟩
    rw[By,Ak,Bf,Je (by rw[Ap])]
   .rw[Ab hq]at hI
    refine⟨_,by (simp![ne,e1,hq,c4,An,Ap])<;>rfl,⟨(ini++[q])++[p],some (.v (.int p.1)),some (.v (.int p.2)),?_,by simpa using by lia,hI⟩⟩
    rw[By,By,Ak,Bf,Ak,Bf]
 .rintro s ⟨acc,x2,x3,rfl,ha,hI⟩
  rw[Cu,List.foldl_nil]at hI;subst hI;unfold Is
  (simp![])<;>rfl
abbrev xS:X3:=⟨"NoSpans",none⟩
abbrev xC:X3:=⟨"NoCalendar",none⟩
theorem Jj {q:V3->Bool} (hq:∀v,q v=true->∃p,v=ze p):∀{xs:List V3},xs.all q=true->∃l:List (Int×Int),xs=l.map ze
 | [],_=>⟨[],rfl⟩
 |x::r,h=>by
  rw[List.all_cons,As]at h;obtain⟨p,rfl⟩:=hq x h.1;obtain⟨l,rfl⟩:=Jj hq h.2;exact⟨p::l,rfl⟩
def SV {v:V3} (h:zP v=true):∃p,v=ze p:=by
 unfold zP at h
 split at h
 .rename_i a b
  rw[As,As]at h;obtain⟨i,rfl,_⟩:=BH h.1;obtain⟨j,rfl,_⟩:=BH h.2.1;exact⟨(i,j),rfl⟩
 .cases h
def SW {v:V3} (h:zK v=true):∃p:Int×Int,v=ze p/\1<=p.1/\p.1<=1000000/\0<=p.2/\p.2<=16:=by
 unfold zK at h
 split at h
 .rename_i a b
  rw[As]at h;obtain⟨i,rfl,h1,h2⟩:=BH h.1;obtain⟨j,rfl,h3,h4⟩:=BH h.2;exact⟨(i,j),rfl,h1,h2,h3,h4⟩
 .cases h
theorem zgr:∀{xs:List V3},xs.all (zy 0 10000000000)=true->∃l:List Int,xs=l.map V3.int
 | [],_=>⟨[],rfl⟩
 |x::r,h=>by
  rw[List.all_cons,As]at h;obtain⟨p,rfl,_⟩:=BH h.1;obtain⟨l,rfl⟩:=zgr h.2;exact⟨p::l,rfl⟩
def SX {xs:List V3} (hl:xs.length<=1000) (hx:∀v∈xs,Rv v) (h:H3):GY [some (.v (.lst xs))] h=.ok (.m (.lst ((xs.map zP).map .bl))) h:=by
 unfold GY;rw[Cv];have:=Hk (n:=1) (fr:=[]) (p:=pV 0) (g:=gN 0) (e:=eCall f_is_row (aCons (pV 0) aNil)) (s:=[some (.v (.lst xs))]) (h:=h) (x:= .lst xs) (enc:=id) (l:=xs) (fun s=> ∃a,s=[a]) (fun v=>V3.bl (zP v)) (by simp![]) (by rw[D1];rfl) (by lia) ⟨none,rfl⟩ (by
  rintro p s hp ⟨a,rfl⟩;exact⟨_,_,by (simp![])<;>rfl,⟨_,rfl⟩,by (simp![SR (hx p hp),id])<;>rfl,rfl⟩)
 exact this
def SY {xs:List V3} (hl:xs.length<=1000) (hx:∀v∈xs,Rv v) (h:H3):GZ [some (.v (.lst xs))] h=.ok (.m (.lst ((xs.map (zy 0 10000000000)).map .bl))) h:=by
 unfold GZ;rw[Cv];exact Hk (n:=1) (fr:=[]) (p:=pV 0) (g:=gN 0) (e:=eCall f_is_turn (aCons (pV 0) aNil)) (s:=[some (.v (.lst xs))]) (h:=h) (x:= .lst xs) (enc:=id) (l:=xs) (fun s=> ∃a,s=[a]) (fun v=>V3.bl (zy 0 10000000000 v)) (by simp![]) (by rw[D1];rfl) (by lia) ⟨none,rfl⟩ (by
  rintro p s hp ⟨a,rfl⟩;exact⟨_,_,by (simp![])<;>rfl,⟨_,rfl⟩,by (simp![Ji (hx p hp).s,id])<;>rfl,rfl⟩)
def SZ (l:List Int) (hl:l.length<=1000) (h:H3):Ha [some (.v (.lst (l.map V3.int)))] h=.ok (.m (.lst ((l.map fun i=>(i,i)).map ze))) h:=by
 unfold Ha;rw[Cv];exact Hk (n:=1) (fr:=[]) (p:=pV 0) (g:=gN 0) (e:=eTup (aCons (pV 0) (aCons (pV 0) aNil))) (s:=[some (.v (.lst (l.map V3.int)))]) (h:=h) (x:= .lst (l.map V3.int)) (enc:=V3.int) (l:=l) (fun s=> ∃a,s=[a]) (fun i=>ze (i,i)) (by simp![]) rfl (by lia) ⟨none,rfl⟩ (by
  rintro p s hp ⟨a,rfl⟩;exact⟨_,_,by (simp![])<;>rfl,⟨_,rfl⟩,by (simp![])<;>rfl,rfl⟩)
def Ta {xs:List V3} (hl:xs.length<=1000) (hx:∀v∈xs,Rv v) (h:H3):Hb [some (.v (.lst xs))] h=.ok (.m (.lst ((xs.map zK).map .bl))) h:=by
 unfold Hb;rw[Cv];exact Hk (n:=1) (fr:=[]) (p:=pV 0) (g:=gN 0) (e:=eCall f_is_calendar_row (aCons (pV 0) aNil)) (s:=[some (.v (.lst xs))]) (h:=h) (x:= .lst xs) (enc:=id) (l:=xs) (fun s=> ∃a,s=[a]) (fun v=>V3.bl (zK v)) (by simp![]) (by rw[D1];rfl) (by lia) ⟨none,rfl⟩ (by
  rintro p s hp ⟨a,rfl⟩;exact⟨_,_,by (simp![])<;>rfl,⟨_,rfl⟩,by (simp![SS (hx p hp),id])<;>rfl,rfl⟩)
def FW {q:V3->Bool} {xs:List V3}:(xs.map q).all id=xs.all q:=by rw[List.all_map];rfl
structure Hv (x:V3):Prop where
 s:Sv x
 i:∀xs,x=.lst xs->∀v∈xs,Rv v
noncomputable def yr (n:Nat) (q:V3->Bool):V3->Bool
 |.lst xs=>decide (xs.length<=n) && xs.all q
 |_=>false
def Tc {x:V3} (hx:Hv x) (h:H3):if yr 200 zP x=true then ∃l,f_tidy [x] h=.ok (.m (.lst l)) h else f_tidy [x] h=.ex xS h:=by
 have e1:=Mq hx.s h;cases hx.s with
 |lst xs=>
  by_cases hl:xs.length<=200
  .have e2:=SX (by lia) (hx.i xs rfl) h
   rw[show shB 200 (.lst xs)=true from Bp hl]at e1
   have eo:yr 200 zP (.lst xs)=xs.all zP:=by show (decide _ && _)=_;rw[Bp hl,Bu]
   rw[eo];cases q:xs.all zP with
   |true=>
    rw[Aa rfl];obtain⟨l,rfl⟩:=Jj (fun v hv=>SV hv) q
    rw[<-FW]at q;obtain⟨rs,em,_⟩:=Mr l (by rw[Ap]at hl;lia) h
    exact⟨_,by (simp![f_tidy,DE,e1,e2,FS,q,em])<;>rfl⟩
   |false=>
    rw[Ab (by decide)]
    rw[<-FW]at q
    (simp![f_tidy,DE,e1,e2,FS,q,qh])<;>rfl
  .rw[show shB 200 (.lst xs)=false from A6 hl]at e1
   have eo:yr 200 zP (.lst xs)=false:=by show (decide _ && _)=_;rw[A6 hl,A9]
   rw[eo,Ab (by decide)]
   (simp![f_tidy,DE,e1,qh])<;>rfl
 |_=>(rw[Ab (by intro z;cases z)];(simp![f_tidy,DE,e1,shB,qh])<;>rfl)
def Td {x:V3} (hx:Hv x) (h:H3):if yr 200 (zy 0 10000000000) x=true then ∃l,f_spans_of [x] h=.ok (.m (.lst l)) h else f_spans_of [x] h=.ex xS h:=by
 have e1:=Mq hx.s h;cases hx.s with
 |lst xs=>
  by_cases hl:xs.length<=200
  .have e2:=SY (by lia) (hx.i xs rfl) h
   rw[show shB 200 (.lst xs)=true from Bp hl]at e1
   have eo:yr 200 (zy 0 10000000000) (.lst xs)=xs.all (zy 0 10000000000):=by show (decide _ && _)=_;rw[Bp hl,Bu]
   rw[eo];cases q:xs.all (zy 0 10000000000) with
   |true=>
    rw[Aa rfl];obtain⟨l,rfl⟩:=zgr q;rw[<-FW]at q;rw[Ap]at hl;have e3:=SZ l (by lia) h
    obtain⟨rs,em,_⟩:=Mr (l.map fun i=>(i,i)) (by rw[Ap];lia) h
    exact⟨_,by (simp![f_spans_of,DF,e1,e2,e3,FS,q,em])<;>rfl⟩
   |false=>
    rw[Ab (by decide)]
    rw[<-FW]at q
    (simp![f_spans_of,DF,e1,e2,FS,q,qh])<;>rfl
  .rw[show shB 200 (.lst xs)=false from A6 hl]at e1
   have eo:yr 200 (zy 0 10000000000) (.lst xs)=false:=by show (decide _ && _)=_;rw[A6 hl,A9]
   rw[eo,Ab (by decide)]
   (simp![f_spans_of,DF,e1,qh])<;>rfl
 |_=>(rw[Ab (by intro z;cases z)];(simp![f_spans_of,DF,e1,shB,qh])<;>rfl)
def Te {x:V3} (hx:Hv x) (h:H3):f_are_calendar_rows [x] h=.ok (.v (.bl (yr 16 zK x))) h:=by
 cases hx.s with
 |lst xs=>
  show _=Res.ok (Vl.v (V3.bl (decide (xs.length<=16) && xs.all zK))) h
  by_cases hl:xs.length<=16
  .have e2:=Ta (by lia) (hx.i xs rfl) h
   have hl': ¬((16:Int)<(xs.length:Int)):=by lia
   rw[Bp hl,Bu,<-FW]
   (simp![f_are_calendar_rows,FH,e2,hl',FS])<;>rfl
  .have hl':((16:Int)<(xs.length:Int)):=by lia
   rw[A6 hl,A9]
   (simp![f_are_calendar_rows,FH,hl'])<;>rfl
 |_=>(simp![f_are_calendar_rows,FH])<;>rfl
def nb2:(Str.ofString "stretches" =Str.ofString "beyond")=False:=eq_false (by decide+kernel)
def Ms (rows:List (Int×Int)) (hl:rows.length<=1000) {x:V3} {h:H3} (hx:IsL h x (rows.map ze)):f_neighbours_as_one [x] h=.ok (.m (.lst ((rows.foldl Cal.nstep []).map ze))) h:=by
 obtain⟨ok,hw⟩:=hx.walk;show Is h _ _;unfold f_neighbours_as_one IG IF
 refine BE rfl ?_
 refine zO (by (simp![])<;>rfl) ?_
 refine QX (x:=x) (l:=rows) (enc:=ze) (by simp![]) hw (fun i s=> ∃acc x2 x3,s=[some (.v x),some (.m (.lst (acc.map ze))),x2,x3]/\acc.length<=i/\(rows.drop i).foldl Cal.nstep acc=rows.foldl Cal.nstep []) ⟨[],none,none,rfl,by simp,by simp⟩ ?_ ?_
 .rintro i p s hi ⟨acc,x2,x3,rfl,ha,hI⟩
  rw[Jf hi,Dh]at hI;have hil:i<rows.length:=(Aq.1 hi).1;have c3:acc.length<sizeLine:=by have:=yL;lia
  rcases Ge acc with rfl|⟨ini,q,rfl⟩
  .refine⟨_,by (simp![Jd,List.isEmpty_nil])<;>rfl,⟨[(p.1,p.2)],_,_,rfl,by simp,?_⟩⟩
   rw[<-hI];rfl
  .rw[Eo,Cal.nstep_snoc]at hI
   rw[Eo]at c3 ha ⊢;rw[By,Ak,Bf];rw[An,D8]at ha;have e1:∀(h:H3) (x2 x3:Option Vl),zD [some (.v x),some (.m (.lst (ini.map ze++[ze q]))),x2,x3] h (.s 1) (.x (.int (-1)))=some (.v (ze q)):=fun h x2 x3=>Jc rfl
   have c4:ini.length+1<sizeLine:=by simpa using c3
   have ne:(ini.map ze++[ze q]).isEmpty=false:=by simp
   have e2:qb (ini.length+1) (-1)=some ini.length:=by
    unfold qb;rw[Ab (by decide),Aa (by lia)]
    congr 1;lia
   by_cases hq:q.2=p.2
   .rw[Aa hq]at hI
    refine⟨_,by (simp![ne,e1,hq,CV,An,Ap,e2])<;>rfl,⟨ini++[(q.1+p.1,p.2)],some (.v (.int p.1)),some (.v (.int p.2)),?_,by simpa using by lia,hI⟩⟩
    rw[By,Ak,Bf,Je (by rw[Ap])]
   .rw[Ab hq]at hI
    refine⟨_,by (simp![ne,e1,hq,c4,An,Ap])<;>rfl,⟨(ini++[q])++[p],some (.v (.int p.1)),some (.v (.int p.2)),?_,by simpa using by lia,hI⟩⟩
    rw[By,By,Ak,Bf,Ak,Bf]
 .rintro s ⟨acc,x2,x3,rfl,ha,hI⟩
  rw[Cu,List.foldl_nil]at hI;subst hI;unfold Is
  (simp![])<;>rfl
def Tf (rows:List (Int×Int)) (rest:Int) (hl:rows.length<=1000) {x:V3} {h:H3} (hx:IsL h x (rows.map ze)):f_kept_rows [x,.int rest] h=.ok (.m (.lst ((Cal.kform rest rows).map ze))) h:=by
 rw[<-Cal.kept_eq];generalize hm:rows.foldl Cal.nstep []=t;have e0:=Ms rows hl hx;rw[hm]at e0
 rcases Ge t with rfl|⟨ini,q,rfl⟩
 .rw[Cal.drp_empty rfl]
  (simp![f_kept_rows,FF,e0,Jd,List.isEmpty_nil])
 .rw[Eo]at e0 ⊢
  rw[Cal.drp_last (l:=q) (by simp),List.dropLast_concat]
  have ne:(ini.map ze++[ze q]).isEmpty=false:=by simp
  have e1:∀(h:H3) (x0 x1:Option Vl),zD [x0,x1,some (.m (.lst (ini.map ze++[ze q])))] h (.s 2) (.x (.int (-1)))=some (.v (ze q)):=fun h x0 x1=>Jc rfl
  rw[By,Ak,Bf]at e0;have e3:mPop (ini.map ze++[ze q]) []=some (ini.map ze,ze q):=by
   unfold mPop;simp
  by_cases hq:q.2=rest
  .rw[Aa hq]
   (simp![f_kept_rows,FF,e0,ne,e1,hq,e3])
  .rw[Ab hq]
   (simp![f_kept_rows,FF,e0,ne,e1,hq,By])
theorem Jk (n:Nat):∀l:List (Int×Int),lows n (l.map ze)=true
 | []=>rfl
 |p::r=>by simp only[Ak,lows,low,Jk n r,Bool.and_self]
def Tg {l:List V3} (h:l.all zK=true):∃rows:List (Int×Int),l=rows.map ze:=Jj (fun v hv=>let ⟨p,e,_⟩:=SW hv;⟨p,e⟩) h
def Mt {x r:V3} (hx:Hv x) (sr:Sv r) (h:H3):if (yr 16 zK x && zy 1 16 r)=true then ∃(l:List (Int×Int)) (rest:Int),f_Calendar_init [.loc h.length,x,r] (h++[.ins "Calendar" []])=.ok (.v .non) (h++[.ins "Calendar" [("stretches",.lst (l.map ze)),("beyond",.int rest)]]) else f_Calendar_init [.loc h.length,x,r] (h++[.ins "Calendar" []])=.ex xC (h++[.ins "Calendar" []]):=by
 have ak:=Te hx (h++[.ins "Calendar" []]);have rk:=SQ sr (h++[.ins "Calendar" []]);cases q1:yr 16 zK x with
 |false=>
  rw[q1]at ak;rw[A9,Ab (by decide)]
  (simp![f_Calendar_init,FI,ak,qh])<;>rfl
 |true=>
  rw[q1]at ak;cases q2:zy 1 16 r with
  |false=>
   rw[q2]at rk;rw[Bu,Ab (by decide)]
   (simp![f_Calendar_init,FI,ak,rk,qh])<;>rfl
  |true=>
   rw[q2]at rk;rw[Bu,Aa rfl];obtain⟨rest,rfl,_⟩:=BH q2;cases hx.s with
   |lst xs=>
    have q1:(decide (xs.length<=16) && xs.all zK)=true:=q1;rw[As,C4]at q1;obtain⟨rows,rfl⟩:=Tg q1.2;have hg:∀c,(h++[C3.ins "Calendar" c])[h.length]? =some (.ins "Calendar" c):=fun c=>by simp
    have hs:∀c d,(h++[C3.ins "Calendar" c]).set h.length d=h++[d]:=fun c d=>Je rfl
    have kr:=Tf rows rest (by rw[Ap]at q1;lia) (x:= .lst (rows.map ze)) (h:=h++[.ins "Calendar" []]) (.inl rfl)
    refine⟨Cal.kform rest rows,rest,?_⟩
    (simp![f_Calendar_init,FI,ak,rk,GK,kr,hg,hs,CW,Bm,nb2])
   |_=>cases q1
def nst (N:Nat):(List.replicate N ((1:Int),(3:Int))).foldl Cal.nstep []=if N=0 then [] else [((N:Int),3)]:=by
 have g:∀(k:Nat) (m:Int),(List.replicate k ((1:Int),(3:Int))).foldl Cal.nstep [(m,3)]=[(m+k,3)]:=by
  intro k
  induction k with
  |zero=>intro m;simp
  |succ k ih=>
   intro m;rw[Cj,Dh];have e:Cal.nstep [(m,3)] (1,3)=[(m+1,3)]:=by
    have:=Cal.nstep_snoc [] (m,3) (1,3);rw[B4,Aa rfl]at this;exact this
   rw[e,ih]
   congr 2;lia
 cases N with
 |zero=>rfl
 |succ n=>
  rw[Cj,Dh,Ab (by lia)]
  have e:Cal.nstep [] ((1:Int),(3:Int))=[(1,3)]:=rfl;rw[e,g]
  congr 2;lia
def Mu (p:Int×Int):Rv (ze p):=⟨.tup _,fun a b e=>by cases e;exact⟨.int _,.int _⟩⟩
def Th {v r:V3} (sv:Sv v) (hv:zy 0 200 v=false) (h:H3):f_calendar_of [.fn ("<fn>" :Str) [],v,r] h=.ex xC h:=by
 have e:=DI sv 0 200 h;rw[hv]at e
 (simp![f_calendar_of,Hc,e,qh])<;>rfl
def QC (r:V3) (h:H3) (R:Res Vl):Prop:=if zy 1 16 r=true then ∃c,R=.ok (.m c) h else R=.ex xC (h++[.ins "Calendar" []])
def Ti {N:Nat} (hN:N<=200) {r:V3} (sr:Sv r) (h:H3):QC r h (f_calendar_of [.fn ("<fn>" :Str) [],.int (N:Int),r] h):=by
 unfold f_calendar_of Hc IJ
 refine BE rfl ?_
 have e:=DI (.int (N:Int)) 0 200 h;rw[qg (by lia) (by lia)]at e
 generalize hK:((N:Nat):Int)=K at*
 refine zO (by (simp![e])<;>rfl) ?_
 refine zO (by (simp![])<;>rfl) ?_
 refine QW (j:=K) (by (simp![])<;>rfl) (by lia) (fun i s=> ∃x4 x5,s=[some (.v (.fn ("<fn>" :Str) [])),some (.v (.int K)),some (.v r),some (.m (.lst ((List.replicate i ((1:Int),(3:Int))).map ze))),x4,x5]) ⟨none,none,rfl⟩ ?_ ?_
 .rintro i s hi ⟨x4,x5,rfl⟩
  have e2:=Mp (.int 3) h;rw[qg (by decide) (by decide)]at e2
  have ap:y6 ((List.replicate i ((1:Int),(3:Int))).map ze) [ze (1,3)]=some ((List.replicate i ((1:Int),(3:Int))).map ze++[ze (1,3)],.non):=mAppend_ok (by have:=yL;rw[Ap,B2];lia)
  generalize ((i:Nat):Int)=I at*
  refine⟨_,by (simp![EY,e2,ap])<;>rfl,some (.v (.int I)),some (.v (.int 3)),?_⟩
  rw[List.replicate_succ',By,Ak,Bf]
 .rintro s ⟨x4,x5,rfl⟩
  have eK:K.toNat=N:=by lia
  rw[eK];have e1:=Ms (List.replicate N ((1:Int),(3:Int))) (by rw[B2];lia) (x:= .lst ((List.replicate N ((1:Int),(3:Int))).map ze)) (h:=h) (.inl rfl)
  rw[nst]at e1;generalize hR:(if N=0 then ([]:List (Int×Int)) else [((N:Int),3)])=rows at e1
  have hx:Hv (.lst (rows.map ze)):=⟨.lst _,fun xs e v hv=>by
   cases e;obtain⟨p,_,rfl⟩:=C7.mp hv;exact Mu p⟩
  have ok:yr 16 zK (.lst (rows.map ze))=true:=by
   subst hR
   by_cases z:N=0
   .rw[Aa z];rfl
   .rw[Ab z]
    show (true && ((zy 1 1000000 (.int (N:Int)) && zy 0 16 (.int 3)) && true))=true;rw[qg (by lia) (by lia),qg (by decide) (by decide)];rfl
  have ia:=Mt hx sr h;rw[ok,Bu]at ia;unfold QC
  by_cases q:zy 1 16 r=true
  .rw[Aa q]at ia ⊢
   obtain⟨l,rest,e3⟩:=ia;have hg:∀c:C3,(h++[c])[h.length]? =some c:=fun c=>by simp
   have hlow:yA h.length [(Str.ofString "stretches",V3.lst (l.map ze)),(Str.ofString "beyond",V3.int rest)]=true:=by
    simp only[yA,low,Jk,Bool.and_self]
   exact⟨_,by (simp![e1,eObj,eNew,e3,hg,hlow])<;>rfl⟩
  .rw[Ab q]at ia ⊢
   (simp![e1,eObj,eNew,ia])<;>rfl
def Tj {x r:V3} (hx:Hv x) (h:H3):f_law_asked [.int 0,x,r] h=if yr 200 zP x=true then .ok (.v .non) h else .ex xS h:=by
 have e:=Tc hx h
 by_cases q:yr 200 zP x=true
 .rw[Aa q]at e ⊢
  obtain⟨l,e⟩:=e
  (simp![f_law_asked,qN,e])<;>rfl
 .rw[Ab q]at e ⊢
  (simp![f_law_asked,qN,e])<;>rfl
def Tn {x r:V3} (hx:Hv x) (h:H3):f_law_asked [.int 1,x,r] h=if yr 200 (zy 0 10000000000) x=true then .ok (.v .non) h else .ex xS h:=by
 have e:=Td hx h
 by_cases q:yr 200 (zy 0 10000000000) x=true
 .rw[Aa q]at e ⊢
  obtain⟨l,e⟩:=e
  (simp![f_law_asked,qN,e])<;>rfl
 .rw[Ab q]at e ⊢
  (simp![f_law_asked,qN,e])<;>rfl
def Mv {x r:V3} (hx:Hv x) (sr:Sv r) (h:H3):f_law_asked [.int 2,x,r] h=if (yr 16 zK x && zy 1 16 r)=true then .ok (.v .non) h else .ex xC (h++[.ins "Calendar" []]):=by
 have e:=Mt hx sr h
 by_cases q:(yr 16 zK x && zy 1 16 r)=true
 .rw[Aa q]at e ⊢
  obtain⟨l,rest,e⟩:=e;have hg:∀c:C3,(h++[c])[h.length]? =some c:=fun c=>by simp
  have hlow:yA h.length [(Str.ofString "stretches",V3.lst (l.map ze)),(Str.ofString "beyond",V3.int rest)]=true:=by
   simp only[yA,low,Jk,Bool.and_self]
  (simp![f_law_asked,qN,eObj,eNew,e,hg,hlow])<;>rfl
 .rw[Ab q]at e ⊢
  (simp![f_law_asked,qN,eObj,eNew,e])<;>rfl
def Jl {s:S3} {g:C3} (hg:g=.tab\/g=.tb2):eLam s [g]=.ok (.v (.fn ("<fn>" :Str) [])) [.tb2]:=by
 rcases hg with rfl|rfl<;>rfl
def To {v r:V3} {g:C3} (hg:g=.tab\/g=.tb2) (sv:Sv v) (hv:zy 0 200 v=false):f_law_asked [.int 3,v,r] [g]=.ex xC [.tb2]:=by
 have e:=Th (r:=r) sv hv [.tb2]
 (simp![f_law_asked,qN,Jl hg,e])<;>rfl
def Jm {N:Nat} (hN:N<=200) {r:V3} {g:C3} (hg:g=.tab\/g=.tb2) (sr:Sv r):f_law_asked [.int 3,.int (N:Int),r] [g]=if zy 1 16 r=true then .ok (.v .non) [.tb2] else .ex xC [.tb2,.ins "Calendar" []]:=by
 have e:=Ti hN sr [.tb2];generalize ((N:Nat):Int)=K at*;unfold QC at e
 by_cases q:zy 1 16 r=true
 .rw[Aa q]at e ⊢
  obtain⟨c,e⟩:=e
  (simp![f_law_asked,qN,Jl hg,e])<;>rfl
 .rw[Ab q]at e ⊢
  (simp![f_law_asked,qN,Jl hg,e])<;>rfl
def Tp:zH zJ ("NoSpans" :Str) ("YardError" :Str)=some true:=by decide+kernel
def Tq:zH zJ ("NoCalendar" :Str) ("YardError" :Str)=some true:=by decide+kernel
def FX {w x r:V3} {h h':H3} (e:f_law_asked [w,x,r] h=.ok (.v .non) h'):f_law_refusal [w,x,r] h=.ok (.v .non) h':=by
 (simp![f_law_refusal,FJ,CD,e])<;>rfl
def Mw {w x r:V3} {h h':H3} (e:f_law_asked [w,x,r] h=.ex xS h'):f_law_refusal [w,x,r] h=.ok (.v (.fn ("NoSpans" :Str) [])) h':=by
 (simp![f_law_refusal,FJ,CD,e,pick,Tp,asN,Option.toList])<;>rfl
def Ho {w x r:V3} {h h':H3} (e:f_law_asked [w,x,r] h=.ex xC h'):f_law_refusal [w,x,r] h=.ok (.v (.fn ("NoCalendar" :Str) [])) h':=by
 (simp![f_law_refusal,FJ,CD,e,pick,Tq,asN,Option.toList])<;>rfl
noncomputable def names:List Str:=["NoName","NoNumber","NoCalendar","NoSpans","TooMany","NoPlan","NoLine","Twice","Taken","NoJob","TooLong"]
def kn (c:Str):List Bool:=(names.map fun B=>(zH zJ c B).getD false)++[true,true]
def Tr {c:Str} (hc:c∈names):(c=("<fn>" :Str))=False:=by
 refine eq_false fun z=>?_
 subst z;exact absurd hc (by decide+kernel)
def Tt:(names.all fun c=>(names++[("YardError" :Str)]).all fun B=>(zH zJ c B).isSome)=true:=by decide+kernel
def Tu:(names.all fun c=>zH zJ c ("YardError" :Str)==some true)=true:=by decide+kernel
def qy {c:Str} (hc:c∈names) {B:Str} (hB:B∈names):zH zJ c B=some ((zH zJ c B).getD false):=by
 have:=Cm.mp (Cm.mp Tt c hc) B (B8 _ hB);obtain⟨v,hv⟩:=Ew.mp this;rw[hv];rfl
def mt_y {c:Str} (hc:c∈names):zH zJ c ("YardError" :Str)=some true:=Af.mp (Cm.mp Tu c hc)
def FY {c:Str} (hc:c∈names) (fs:List V3) (h:H3):f_law_kinds [.fn c fs] h=.ok (.m (.lst ((kn c).map .bl))) h:=by
 have n0:=Tr hc;have a0:=qy hc (B:="NoName") (by decide+kernel)
 have a1:=qy hc (B:="NoNumber") (by decide+kernel)
 have a2:=qy hc (B:="NoCalendar") (by decide+kernel)
 have a3:=qy hc (B:="NoSpans") (by decide+kernel)
 have a4:=qy hc (B:="TooMany") (by decide+kernel)
 have a5:=qy hc (B:="NoPlan") (by decide+kernel)
 have a6:=qy hc (B:="NoLine") (by decide+kernel)
 have a7:=qy hc (B:="Twice") (by decide+kernel)
 have a8:=qy hc (B:="Taken") (by decide+kernel)
 have a9:=qy hc (B:="NoJob") (by decide+kernel)
 have aA:=qy hc (B:="TooLong") (by decide+kernel)
 have ay:=mt_y hc;obtain⟨bc,ac⟩:∃b,zH zJ c c=some b:=⟨_,qy hc hc⟩;have ek:kn c=[(zH zJ c "NoName").getD false,(zH zJ c "NoNumber").getD false,(zH zJ c "NoCalendar").getD false,(zH zJ c "NoSpans").getD false,(zH zJ c "TooMany").getD false,(zH zJ c "NoPlan").getD false,(zH zJ c "NoLine").getD false,(zH zJ c "Twice").getD false,(zH zJ c "Taken").getD false,(zH zJ c "NoJob").getD false,(zH zJ c "TooLong").getD false,true,true]:=rfl;rw[ek];generalize (zH zJ c "NoName").getD false=b0 at*;generalize (zH zJ c "NoNumber").getD false=b1 at*;generalize (zH zJ c "NoCalendar").getD false=b2 at*;generalize (zH zJ c "NoSpans").getD false=b3 at*;generalize (zH zJ c "TooMany").getD false=b4 at*;generalize (zH zJ c "NoPlan").getD false=b5 at*;generalize (zH zJ c "NoLine").getD false=b6 at*;generalize (zH zJ c "Twice").getD false=b7 at*;generalize (zH zJ c "Taken").getD false=b8 at*;generalize (zH zJ c "NoJob").getD false=b9 at*;generalize (zH zJ c "TooLong").getD false=bA at*;have oa:∀(s:S3) (xs ys:List V3),s[1]? =some (some (.m (.lst xs)))->xs.length+ys.length<=100->zk s h (.s 1) (.x (.lst ys))=some (.m (.lst (xs++ys))):=fun s xs ys e hl=>by
  unfold zk yV BO oI BP oCat;simp only[rdm,rdl,e,Aa (show xs.length+ys.length<=sizeLine by have:=yL;lia)]
 have o1:=oa [some (.v (.fn c fs)),some (.m (.lst [.bl b0,.bl b1,.bl b2,.bl b3]))] [.bl b0,.bl b1,.bl b2,.bl b3] [.bl b4,.bl b5,.bl b6,.bl b7] rfl (by simp)
 have o2:=oa [some (.v (.fn c fs)),some (.m (.lst [.bl b0,.bl b1,.bl b2,.bl b3,.bl b4,.bl b5,.bl b6,.bl b7]))] [.bl b0,.bl b1,.bl b2,.bl b3,.bl b4,.bl b5,.bl b6,.bl b7] [.bl b8,.bl b9,.bl bA] rfl (by simp)
 have o3:=oa [some (.v (.fn c fs)),some (.m (.lst [.bl b0,.bl b1,.bl b2,.bl b3,.bl b4,.bl b5,.bl b6,.bl b7,.bl b8,.bl b9,.bl bA]))] [.bl b0,.bl b1,.bl b2,.bl b3,.bl b4,.bl b5,.bl b6,.bl b7,.bl b8,.bl b9,.bl bA] [.bl true,.bl true] rfl (by simp)
 show Is h _ _;unfold f_law_kinds IK
 refine BE rfl ?_
 refine zO (by (simp![zX,n0,a0,a1,a2,a3,A4])<;>rfl) ?_
 refine zO (by (simp![zX,n0,a4,a5,a6,a7,A4,o1,D0,B4])<;>rfl) ?_
 refine zO (by (simp![zX,n0,a8,a9,aA,A4,o2,D0,B4])<;>rfl) ?_
 unfold Is
 (simp![zX,bIsV,n0,ay,ac,A4,o3,D0,B4,Ak,Bf])<;>rfl
noncomputable def dv (k:Int):List Bool:=((List.range 11).map fun j:Nat=>decide ((j:Int)=k))++[true,true]
def FZ (k:Int) (h:H3):f_law_due [.int k] h=.ok (.m (.lst ((dv k).map .bl))) h:=by
 have hc:He [some (.v (.int k))] h=.ok (.m (.lst (((List.range 11).map fun j:Nat=>decide ((j:Int)=k)).map .bl))) h:=by
  unfold He;rw[Cv]
  refine Hj (j:=11) (fun s=> ∃a,s=[a,some (.v (.int k))]) _ (by simp![]) (by decide) ⟨none,rfl⟩ ?_
  rintro i s hi ⟨a,rfl⟩;exact⟨_,_,by (simp![])<;>rfl,⟨_,rfl⟩,by (simp![])<;>rfl,rfl⟩
 have hl:(((List.range 11).map fun j:Nat=>decide ((j:Int)=k)).map V3.bl).length+[V3.bl true,V3.bl true].length<=sizeLine:=by have:=yL;simp;lia
 have oa:∀s:S3,zk s h (.x (.lst (((List.range 11).map fun j:Nat=>decide ((j:Int)=k)).map V3.bl))) (.x (.lst [.bl true,.bl true]))=some (.m (.lst (((List.range 11).map fun j:Nat=>decide ((j:Int)=k)).map V3.bl++[.bl true,.bl true]))):=fun s=>by
  unfold zk yV BO oI BP oCat;simp only[rdm,rdl];rw[Aa hl]
 unfold dv;rw[By]
 (simp![f_law_due,IL,hc,oa])<;>rfl
def Gg:∀k:Nat,k<11->∀c,names[k]? =some c->kn c=dv (k:Int):=by
 have:∀k:Nat,k<11->(match names[k]? with|some c=>kn c==dv (k:Int)|none=>true)=true:=by decide+kernel
 intro k hk c e;have q:=this k hk;rw[e]at q;exact Af.mp q
def Mx {h:H3} {n:Nat} {bs:List Bool}:∀x∈bs.map V3.bl,ya h n x x=some true:=fun x hx=>by
 obtain⟨b,_,rfl⟩:=C7.mp hx;cases n<;>simp[ya,yT,eqV]
def Hq {s:S3} {h:H3} {bs:List Bool}:yO s h (.x (.lst (bs.map .bl))) (.x (.lst (bs.map .bl)))=some (.v (.bl false)):=SJ FT FT Mx
def Mz {s:S3} {h:H3} {bs:List Bool}:z9 s h (.x (.lst (bs.map .bl))) (.x (.lst (bs.map .bl)))=some (.v (.bl true)):=Mo FT FT Mx
noncomputable def m7:List (Nat×Str):=[(0,"NoName"),(1,"NoNumber"),(2,"NoCalendar"),(3,"NoSpans"),(4,"TooMany"),(5,"NoPlan"),(6,"NoLine")]
noncomputable def m4:List (Nat×Str):=[(0,"Twice"),(1,"Taken"),(2,"NoJob"),(3,"TooLong")]
def Tv:∀p∈m7,p.1<11/\names[p.1]? =some p.2:=by decide+kernel
def Tw:∀p∈m4,7+p.1<11/\names[7+p.1]? =some p.2/\(p.2∈([("Twice" :Str),("Taken" :Str),("NoJob" :Str),("TooLong" :Str)]:List Str)/\p.2≠("<fn>" :Str)):=by decide+kernel
noncomputable abbrev e7 (p:Nat×Str):V3:= .tup [.int (p.1:Int),.fn p.2 []]
noncomputable abbrev e4 (z:Str) (p:Nat×Str):V3:= .tup [.int (p.1:Int),.fn p.2 [.str z]]
def Tx (z:Str) (hz:z.length<=1000) (h:H3):f_law_errors [.str z] h=.ok (.v (.bl true)) h:=by
 have hz':z.length<=10000:=by lia
 show Is h _ _;unfold f_law_errors IS IM IQ
 refine BE rfl ?_
 refine zO (by (simp![eXc,Ay,C5])<;>rfl) ?_
 refine zO (by (simp![])<;>rfl) ?_
 refine it_E (l:=m7) (enc:=e7) (its:=[.lst [.fn ("NoName" :Str) [],.fn ("NoNumber" :Str) [],.fn ("NoCalendar" :Str) [],.fn ("NoSpans" :Str) [],.fn ("TooMany" :Str) [],.fn ("NoPlan" :Str) [],.fn ("NoLine" :Str) []]]) (ok:=fun _=>True) (by (simp![EK,y9])<;>rfl) (fun i s h'=>h'=h/\∃a x2 x3,s=[some (.v (.str z)),a,x2,x3]) (fun _ _ _ _=>trivial) ⟨rfl,_,_,_,rfl⟩ ?_ ?_
 .rintro i ⟨k,c⟩ s h' hi ⟨rfl,a,x2,x3,rfl⟩
  obtain⟨hk,hc⟩:=Tv _ (Am hi);have hk:k<11:=hk;have hc:names[k]? =some c:=hc;have e1:=FY (Am hc) [] h';have e2:=FZ (k:Int) h';rw[Gg k hk c hc]at e1;have ee:e7 (k,c)=.tup [.int (k:Int),.fn c []]:=rfl;rw[ee];generalize ((k:Nat):Int)=K at*;exact .inl ⟨_,_,.inl (by (simp![e1,e2,Hq])<;>rfl),rfl,_,_,_,rfl⟩
 .rintro s h' ⟨rfl,a,x2,x3,rfl⟩
  refine it_E (l:=m4) (enc:=e4 z) (its:=[.lst [.fn ("Twice" :Str) [.str z],.fn ("Taken" :Str) [.str z],.fn ("NoJob" :Str) [.str z],.fn ("TooLong" :Str) [.str z]]]) (ok:=fun _=>True) (by (simp![EK,y9,eXcN,hz'])<;>rfl) (fun i s h''=>h''=h'/\∃a x2 x3,s=[some (.v (.str z)),a,x2,x3]) (fun _ _ _ _=>trivial) ⟨rfl,_,_,_,rfl⟩ ?_ ?_
  .rintro i ⟨k,c⟩ s h'' hi ⟨rfl,a,x2,x3,rfl⟩
   obtain⟨hk,hc,hm⟩:=Tw _ (Am hi);have hk:7+k<11:=hk;have hc:names[7+k]? =some c:=hc;have e1:=FY (Am hc) [.str z] h'';have e2:=FZ (7+(k:Int)) h'';rw[Gg (7+k) hk c hc,show (((7+k:Nat)):Int)=7+(k:Int) by lia]at e1
   have ee:e4 z (k,c)=.tup [.int (k:Int),.fn c [.str z]]:=rfl;rw[ee];generalize ((k:Nat):Int)=K at*;have hm:c∈([("Twice" :Str),("Taken" :Str),("NoJob" :Str),("TooLong" :Str)]:List Str)/\c≠("<fn>" :Str):=hm;have ex:∀s h,eXm [("Twice" :Str),("Taken" :Str),("NoJob" :Str),("TooLong" :Str)] (pV 3) [s,a,some (.v (.int K)),some (.v (.fn c [.str z]))] h=.ok (.v (.str z)) h:=fun s h=>by
    (simp![eXm,Aa hm])<;>rfl
   have on:∀s h,yO s h (.x (.str z)) (.x (.str z))=some (.v (.bl false)):=fun s h=>by rw[SL];simp
   exact .inl ⟨_,_,.inl (by (simp![e1,e2,Hq,ex,on])<;>rfl),rfl,_,_,_,rfl⟩
  .rintro s h'' ⟨rfl,a,x2,x3,rfl⟩
   unfold Is
   (simp![])<;>rfl
def yM (w:Int):V3->Bool:=if w=0 then zP else if w=1 then zy 0 10000000000 else zK
def okW0:yM 0=zP:=rfl
def okW1:yM 1=zy 0 10000000000:=rfl
def okW2:yM 2=zK:=rfl
structure Way (w:Int):Prop where
 o:w=0\/w=1\/w=2
def sz10:10<=sizeLine:=by have:=yL;lia
def sz8:8<=sizeLine:=by have:=yL;lia
def sz7:7<=sizeLine:=by have:=yL;lia
def p20 (s:S3) (h:H3):zU s h (.x (.int 10)) (.x (.int 20))=some (.v (.int 100000000000000000000)):=oPow_int (by decide)
def qP (s:S3) (h:H3):zU s h (.x (.int 10)) (.x (.int 10))=some (.v (.int 10000000000)):=oPow_int (by decide)
def p6 (s:S3) (h:H3):zU s h (.x (.int 10)) (.x (.int 6))=some (.v (.int 1000000)):=oPow_int (by decide)
def Tz {n:Int}:n%10=0\/n%10=1\/n%10=2\/n%10=3\/n%10=4\/n%10=5\/n%10=6\/n%10=7\/n%10=8\/n%10=9:=by lia
def T1 {lo hi far i:Int} (hf:0<=far) (hi':i=0\/i=1\/i=2\/i=3\/i=4\/i=5\/i=6\/i=7\/i=8\/i=9):∃v,atI [V3.int (lo-1),.int (hi+1),.int (lo-1-far),.int (hi+1+far),.bl true,.non,.str ("1" :Str),.lst [.int lo],.tup [.int lo],.bl false] i=some v/\Rv v/\zy lo hi v=false:=by
 rcases hi' with rfl|rfl|rfl|rfl|rfl|rfl|rfl|rfl|rfl|rfl
 .exact⟨_,rfl,⟨.int _,fun a b e=>by cases e⟩,Hl (.inl (by lia))⟩
 .exact⟨_,rfl,⟨.int _,fun a b e=>by cases e⟩,Hl (.inr (by lia))⟩
 .exact⟨_,rfl,⟨.int _,fun a b e=>by cases e⟩,Hl (.inl (by lia))⟩
 .exact⟨_,rfl,⟨.int _,fun a b e=>by cases e⟩,Hl (.inr (by lia))⟩
 .exact⟨_,rfl,⟨.bl _,fun a b e=>by cases e⟩,rfl⟩
 .exact⟨_,rfl,⟨.non,fun a b e=>by cases e⟩,rfl⟩
 .exact⟨_,rfl,⟨.str _,fun a b e=>by cases e⟩,rfl⟩
 .exact⟨_,rfl,⟨.lst _,fun a b e=>by cases e⟩,rfl⟩
 .exact⟨_,rfl,⟨.tup _,fun a b e=>by cases e⟩,rfl⟩
 .exact⟨_,rfl,⟨.bl _,fun a b e=>by cases e⟩,rfl⟩
def DJ {n:Int} (h0:0<=n) (h1:n<2147483647) (lo hi:Int) (h:H3):∃v,f_law_odd [.int n,.int lo,.int hi] h=.ok (.v v) h/\Rv v/\zy lo hi v=false:=by
 have c1:CMul n (100000000000000000000):=GR ⟨by lia,by lia⟩
 have hf:0<=n*100000000000000000000:=Int.mul_nonneg h0 (by decide)
 obtain⟨v,ev',sv,bv⟩:=T1 (lo:=lo) (hi:=hi) hf (Tz (n:=n))
 refine⟨v,?_,sv,bv⟩
 show Is h _ _;unfold f_law_odd Iv
 refine BE rfl ?_
 refine zO (s1:=[some (.v (.int n)),some (.v (.int lo)),some (.v (.int hi)),some (.v (.int (n*100000000000000000000)))]) (h1:=h) (by (simp![c1,p20])<;>rfl) ?_
 generalize n*100000000000000000000=far at*;unfold Is
 (simp![ev',sz10])<;>rfl
def Jn {l:List V3} {i:Int} (h0:0<=i) (h1:i<l.length):atI l i=some (l.getD i.toNat .non):=by
 obtain⟨n,rfl⟩:=Gf h0;have hn:n<l.length:=by lia
 refine AC (j:=n) ?_
 rw[z0 hn,Bt,Fl,z0 hn];rfl
def gv (w n:Int):V3:=if w=1 then [V3.int 0,.int (10000000000),.int n].getD (n%3).toNat .non else if w=0 then [ze (0,0),ze (0,10000000000),ze (10000000000,10000000000),ze (n,n+n%90)].getD (n%4).toNat .non else [ze (1,0),ze (1000000,16),ze (1+n%1000000,n%17)].getD (n%3).toNat .non
def Jo {w:Int} (hw:Way w) (n:Int) (h:H3):f_law_good [.int w,.int n] h=.ok (.v (gv w n)) h:=by
 rcases hw.o with rfl|rfl|rfl
 .have e:=Jn (l:=[ze (0,0),ze (0,10000000000),ze (10000000000,10000000000),ze (n,n+n%90)]) (i:=n%4) (by lia) (by simp only[Ay,C5];lia)
  show _=Res.ok (Vl.v ([ze (0,0),ze (0,10000000000),ze (10000000000,10000000000),ze (n,n+n%90)].getD (n%4).toNat .non)) h
  (simp![f_law_good,FA,e,qP,p6])<;>rfl
 .have e:=Jn (l:=[V3.int 0,.int (10000000000),.int n]) (i:=n%3) (by lia) (by simp only[Ay,C5];lia)
  show _=Res.ok (Vl.v ([V3.int 0,.int (10000000000),.int n].getD (n%3).toNat .non)) h
  (simp![f_law_good,FA,e,qP,p6])<;>rfl
 .have e:=Jn (l:=[ze (1,0),ze (1000000,16),ze (1+n%1000000,n%17)]) (i:=n%3) (by lia) (by simp only[Ay,C5];lia)
  show _=Res.ok (Vl.v ([ze (1,0),ze (1000000,16),ze (1+n%1000000,n%17)].getD (n%3).toNat .non)) h
  (simp![f_law_good,FA,e,qP,p6])<;>rfl
def Hr {a b:Int} (h1:0<=a) (h2:a<=b) (h3:b<=10000000000):zP (ze (a,b))=true:=by
 show (zy 0 10000000000 (.int a) && (zy 0 10000000000 (.int b) && decide (a<=b)))=true;rw[qg h1 (by lia),qg (by lia) h3,Bp h2];rfl
def Jp {a b:Int} (h1:1<=a) (h2:a<=1000000) (h3:0<=b) (h4:b<=16):zK (ze (a,b))=true:=by
 show (zy 1 1000000 (.int a) && zy 0 16 (.int b))=true;rw[qg h1 h2,qg h3 h4];rfl
structure Gd (w:Int) (v:V3):Prop where
 ok:yM w v=true
 r:Rv v
 e:∀(h:H3) (n:Nat),ya h (n+1) v v=some true
def T2 {i:Int} (h:yM 1 (.int i)=true):Gd 1 (.int i):=⟨h,⟨.int _,fun a b e=>by cases e⟩,fun h n=>by rw[EW];simp⟩
def eq_P (p:Int×Int) (h:H3) (n:Nat):ya h (n+1) (ze p) (ze p)=some true:=SK fun x hx=>by
 rcases Ag.mp hx with rfl|hx
 .rw[EW];simp
 .rcases Ag.mp hx with rfl|hx
  .rw[EW];simp
  .cases hx
def gd_P {w:Int} {p:Int×Int} (h:yM w (ze p)=true):Gd w (ze p):=⟨h,Mu p,eq_P p⟩
def gd0 {p:Int×Int} (h:zP (ze p)=true):Gd 0 (ze p):=gd_P (show yM 0 (ze p)=true from h)
def gd1 {i:Int} (h:zy 0 10000000000 (.int i)=true):Gd 1 (.int i):=T2 (show yM 1 (.int i)=true from h)
def gd2 {p:Int×Int} (h:zK (ze p)=true):Gd 2 (ze p):=gd_P (show yM 2 (ze p)=true from h)
def M1 {w:Int} (hw:Way w) {n:Int} (h0:0<=n) (h1:n<=9000000000):Gd w (gv w n):=by
 rcases hw.o with rfl|rfl|rfl
 .show Gd 0 ([ze (0,0),ze (0,10000000000),ze (10000000000,10000000000),ze (n,n+n%90)].getD (n%4).toNat .non)
  have:n%4=0\/n%4=1\/n%4=2\/n%4=3:=by lia
  rcases this with z|z|z|z<;>rw[z]
  .exact gd0 (Hr (by decide) (by decide) (by decide))
  .exact gd0 (Hr (by decide) (by decide) (by decide))
  .exact gd0 (Hr (by decide) (by decide) (by decide))
  .exact gd0 (Hr (by lia) (by lia) (by lia))
 .show Gd 1 ([V3.int 0,.int (10000000000),.int n].getD (n%3).toNat .non)
  have:n%3=0\/n%3=1\/n%3=2:=by lia
  rcases this with z|z|z<;>rw[z]
  .exact gd1 (qg (by decide) (by decide))
  .exact gd1 (qg (by decide) (by decide))
  .exact gd1 (qg (by lia) (by lia))
 .show Gd 2 ([ze (1,0),ze (1000000,16),ze (1+n%1000000,n%17)].getD (n%3).toNat .non)
  have:n%3=0\/n%3=1\/n%3=2:=by lia
  rcases this with z|z|z<;>rw[z]
  .exact gd2 (Jp (by decide) (by decide) (by decide) (by decide))
  .exact gd2 (Jp (by decide) (by decide) (by decide) (by decide))
  .have:=Int.emod_nonneg n (show (1000000:Int)≠0 by decide)
   have:=Int.emod_lt_of_pos n (show (0:Int)<1000000 by decide)
   exact gd2 (Jp (by lia) (by lia) (by lia) (by lia))
def bad8 {i:Int} (hi:i=0\/i=1\/i=2\/i=3\/i=4\/i=5\/i=6\/i=7):∃v,atI [V3.lst [.int 1,.int 1],.tup [.int 1],.tup [.int 1,.int 1,.int 1],.int 1,.non,.str ("11" :Str),.dT [],.tup []] i=some v/\Rv v/\zP v=false/\zK v=false:=by
 rcases hi with rfl|rfl|rfl|rfl|rfl|rfl|rfl|rfl
 .exact⟨_,rfl,⟨.lst _,fun a b e=>by cases e⟩,rfl,rfl⟩
 .exact⟨_,rfl,⟨.tup _,fun a b e=>by cases e⟩,rfl,rfl⟩
 .exact⟨_,rfl,⟨.tup _,fun a b e=>by cases e⟩,rfl,rfl⟩
 .exact⟨_,rfl,⟨.int _,fun a b e=>by cases e⟩,rfl,rfl⟩
 .exact⟨_,rfl,⟨.non,fun a b e=>by cases e⟩,rfl,rfl⟩
 .exact⟨_,rfl,⟨.str _,fun a b e=>by cases e⟩,rfl,rfl⟩
 .exact⟨_,rfl,⟨.dct,fun a b e=>by cases e⟩,rfl,rfl⟩
 .exact⟨_,rfl,⟨.tup _,fun a b e=>by cases e⟩,rfl,rfl⟩
def pr_v {a b:V3} (ha:Sv a) (hb:Sv b):Rv (.tup [a,b]):=⟨.tup _,fun x y e=>by cases e;exact⟨ha,hb⟩⟩
def T4 {w:Int} (hw:Way w) {n:Int} (h0:0<=n) (h1:n<2147483647) (h:H3):∃v,f_law_bad [.int w,.int n] h=.ok (.v v) h/\Rv v/\yM w v=false:=by
 rcases hw.o with rfl|rfl|rfl
 .rw[okW0]
  by_cases q0:n%8=0
  .obtain⟨v,e,rv,b1,_⟩:=bad8 (i:=n / 8%8) (by lia)
   exact⟨v,by (simp![f_law_bad,AE,yq,sz8,qP,p6,q0,e])<;>rfl,rv,b1⟩
  .by_cases q1:n%8=1
   .refine⟨_,by (simp![f_law_bad,AE,yq,sz8,qP,p6,q0,q1])<;>rfl,pr_v (.int _) (.int _),?_⟩
    show (zy 0 10000000000 _ && (zy 0 10000000000 _ && decide (1+n / 40%1000<=n / 40%1000-n / 40 / 1000%3)))=false;rw[A6 (by lia),C9,C9]
   .obtain⟨v,e,sv,bv⟩:=DJ (n:=n / 40) (by lia) (by lia) 0 (10000000000) h
    have q2:n%2=0\/n%2=1:=by lia
    rcases q2 with z|z
    .refine⟨_,by (simp![f_law_bad,AE,yq,sz8,qP,p6,q0,q1,e,z])<;>rfl,pr_v sv.s (.int _),?_⟩
     show (zy 0 (10000000000) v && _)=false;rw[bv,A9]
    .refine⟨_,by (simp![f_law_bad,AE,yq,sz8,qP,p6,q0,q1,e,z])<;>rfl,pr_v (.int _) sv.s,?_⟩
     show (zy 0 10000000000 (.int 0) && (zy 0 10000000000 v && leB (.int 0) v))=false;rw[bv,A9,C9]
 .rw[okW1]
  obtain⟨v,e,sv,bv⟩:=DJ h0 h1 0 (10000000000) h;exact⟨v,by (simp![f_law_bad,AE,yq,sz8,qP,p6,e])<;>rfl,sv,bv⟩
 .rw[okW2]
  by_cases q0:n%8=0
  .obtain⟨v,e,rv,_,b1⟩:=bad8 (i:=n / 8%8) (by lia)
   exact⟨v,by (simp![f_law_bad,AE,yq,sz8,qP,p6,q0,e])<;>rfl,rv,b1⟩
  .obtain⟨v,e,sv,bv⟩:=DJ (n:=n / 40) (by lia) (by lia) 1 (1000000) h
   obtain⟨v',e',sv',bv'⟩:=DJ (n:=n / 40) (by lia) (by lia) 0 16 h
   have q2:n%2=0\/n%2=1:=by lia
   rcases q2 with z|z
   .refine⟨_,by (simp![f_law_bad,AE,yq,sz8,qP,p6,q0,e,e',z])<;>rfl,pr_v sv.s (.int _),?_⟩
    show (zy 1 (1000000) v && _)=false;rw[bv,A9]
   .refine⟨_,by (simp![f_law_bad,AE,yq,sz8,qP,p6,q0,e,e',z])<;>rfl,pr_v (.int _) sv'.s,?_⟩
    show (zy 1 1000000 (.int 3) && zy 0 16 v')=false;rw[bv',C9]
noncomputable def yI (w:Int):Nat:=if w=2 then 16 else 200
def T5 {w:Int} (hw:Way w):atI [V3.int 200,.int 200,.int 16] w=some (.int (yI w:Int)):=by
 rcases hw.o with rfl|rfl|rfl<;>rfl
def Jq (w:Int):16<=yI w/\yI w<=200:=by unfold yI;split<;>lia
def gs (w:Int) (n:Nat):List V3:=(List.range n).map fun k:Nat=>gv w (2+12*(k:Int))
def M3 (w:Int) (n:Nat):(gs w n).length=n:=by simp[gs]
def M4 {w:Int} (hw:Way w) {n:Nat} (hn:n<=300):∀v∈gs w n,Gd w v:=fun v hv=>by
 obtain⟨k,hk,rfl⟩:=C7.mp hv;have:=B7.mp hk;exact M1 hw (by lia) (by lia)
def sm (w:Int) (ns:List Int) (N:Nat):List V3:=(List.range N).map fun k:Nat=>gv w (mix (cell ns (2+k)) (k:Int))
def T6 (w:Int) (ns:List Int) (N:Nat):(sm w ns N).length=N:=by simp[sm]
def T7 {w:Int} (hw:Way w) {ns:List Int} {N:Nat}:∀v∈sm w ns N,Gd w v:=fun v hv=>by
 obtain⟨k,hk,rfl⟩:=C7.mp hv;have:=FU (cell ns (2+k)) (k:Int);exact M1 hw (by lia) (by lia)
def T8 {w:Int} (hw:Way w) (ns:List Int) (n:Int) (h:H3) {r:S3}:DB (some (.v (.int w))::some (.v (.scr ns))::some (.v (.int n))::r) h=.ok (.m (.lst (sm w ns (1+n%8).toNat))) h:=by
 unfold DB sm
 refine Hj (j:=1+n%8) (fun s=> ∃a,s=[a,some (.v (.int w)),some (.v (.scr ns))]) _ (by simp![]) (by lia) ⟨none,rfl⟩ ?_
 rintro i s hi ⟨a,rfl⟩;have e1:f_law_cell_at [.scr ns,.int (2+(i:Int))] h=.ok (.v (.int (cell ns (2+i)))) h:=by have:=CI ns (2+i) h;rwa [show (((2+i:Nat)):Int)=2+(i:Int) by lia]at this
 have e2:=FV (cell ns (2+i)) (i:Int) h;have e3:=Jo hw (mix (cell ns (2+i)) (i:Int)) h;generalize ((i:Nat):Int)=I at*;exact⟨_,_,by (simp![])<;>rfl,⟨_,rfl⟩,by (simp![e1,e2,e3])<;>rfl,rfl⟩
def T9 {w:Int} (hw:Way w) {m:Nat} (hm:m<=200) (h:H3) {x1 x2 x3 x4 x5 x7:Option Vl}:DC [some (.v (.int w)),x1,x2,x3,x4,x5,some (.v (.int (m:Int))),x7] h=.ok (.m (.lst (gs w (m+1)))) h:=by
 unfold DC gs;have hm':m+1=((m:Int)+1).toNat:=by lia
 rw[hm'];have hb: -1000000<=(m:Int)+1/\(m:Int)+1<=1000000:=by lia
 generalize ((m:Nat):Int)=M at*
 refine Hj (j:=M+1) (fun s=> ∃a,s=[a,some (.v (.int w))]) _ (by simp![]) hb ⟨none,rfl⟩ ?_
 rintro i s hi ⟨a,rfl⟩;have e3:=Jo hw (2+12*(i:Int)) h;have c1:CMul 12 (i:Int):=GR ⟨by decide,by decide⟩
 generalize ((i:Nat):Int)=I at*;exact⟨_,_,by (simp![])<;>rfl,⟨_,rfl⟩,by (simp![e3,c1])<;>rfl,rfl⟩
def TB {w:Int} (hw:Way w) {m:Nat} (hm:m<=200) (h:H3) {x1 x2 x3 x4 x5 x7:Option Vl}:DD [some (.v (.int w)),x1,x2,x3,x4,x5,some (.v (.int (m:Int))),x7] h=.ok (.m (.lst (gs w m))) h:=by
 unfold DD gs;have hm':m=(m:Int).toNat:=by lia
 rw[hm',show ((m:Int).toNat:Int)=(m:Int) by lia]
 have hb: -1000000<=(m:Int)/\(m:Int)<=1000000:=by lia
 generalize ((m:Nat):Int)=M at*
 refine Hj (j:=M) (fun s=> ∃a,s=[a,some (.v (.int w))]) _ (by simp![]) hb ⟨none,rfl⟩ ?_
 rintro i s hi ⟨a,rfl⟩;have e3:=Jo hw (2+12*(i:Int)) h;have c1:CMul 12 (i:Int):=GR ⟨by decide,by decide⟩
 generalize ((i:Nat):Int)=I at*;exact⟨_,_,by (simp![])<;>rfl,⟨_,rfl⟩,by (simp![e3,c1])<;>rfl,rfl⟩
def M5 {s:S3} {h:H3} {v:V3} {k:Int} (h1:0<=k/\k<=1000):zY s h (.x (.lst [v])) (.x (.int k))=some (.m (.lst (List.replicate k.toNat v))):=by
 have e:(List.replicate k.toNat [v]).flatten=List.replicate k.toNat v:=by
  induction k.toNat with
  |zero=>rfl
  |succ n ih=>rw[Cj,B3,ih];rfl
 unfold zY yV GA oI oRep;simp only[rdm,rdl,D8,Nat.one_mul];rw[Aa ⟨by lia,by lia,by have:=yL;lia⟩,e]
def M6 {s:S3} {h:H3} {xs ys:List V3} (hl:xs.length+ys.length<=1000):zk s h (.x (.lst xs)) (.x (.lst ys))=some (.m (.lst (xs++ys))):=by
 unfold zk yV BO oI BP oCat;simp only[rdm,rdl,Aa (show xs.length+ys.length<=sizeLine by have:=yL;lia)]
noncomputable abbrev l7 (S:List V3) (A:Nat) (bad S0:V3):List V3:=[.lst (S.take A++[bad]++S.drop A),.tup S,.non,.int 5,.str ("a" :Str),.dT [],S0]
abbrev l9 (w:Int) (S:List V3) (A:Nat) (bad S0:V3):List V3:=l7 S A bad S0++[.lst (gs w (yI w+1))]++[.lst (List.replicate (yI w+1) S0)]
def set7 {S:List V3} {A:Nat} {bad S0:V3} (hl:S.length<=8) (h0:S[0]? =some S0) (h:H3) {x0 x1 x2 x6 x7:Option Vl}:sSet 7 (eLst (aCons (pE (eOp zk (pE (eOp zk (pE (eSl (pV 3) poN (poS (pV 4)))) (pE (eLst (aCons (pV 5) aNil))))) (pE (eSl (pV 3) (poS (pV 4)) poN)))) (aCons (pE (eB EX (aCons (pV 3) aNil))) (aCons (pE (eC .non)) (aCons (kJ 5) (aCons (pE (eC (.str ("a" :Str)))) (aCons (pE yq) (aCons (pE (eOp zD (pV 3) (kJ 0))) aNil)))))))) [x0,x1,x2,some (.m (.lst S)),some (.v (.int (A:Int))),some (.v bad),x6,x7] h=.nx [x0,x1,x2,some (.m (.lst S)),some (.v (.int (A:Int))),some (.v bad),x6,some (.m (.lst (l7 S A bad S0)))] h:=by
 have e1:=SI S A;have e2:=SH S A;have e3:∀x0 x1 x2 x4 x5 x6 x7,zD [x0,x1,x2,some (.m (.lst S)),x4,x5,x6,x7] h (.s 3) (.x (.int 0))=some (.v S0):=fun x0 x1 x2 x4 x5 x6 x7=>by
  have:atI S 0=some S0:=AC (j:=0) h0;rw[Jb];simp only[Dw,Dv,this,A4]
 have t1:(S.take A).length<=8:=by rw[A5];lia
 have t2:(S.drop A).length<=8:=by rw[Cc];lia
 have o1:=fun s=>M6 (s:=s) (h:=h) (xs:=S.take A) (ys:=[bad]) (by simp;lia)
 have o2:=fun s=>M6 (s:=s) (h:=h) (xs:=S.take A++[bad]) (ys:=S.drop A) (by simp;lia)
 generalize ((A:Nat):Int)=a at*
 (simp![eSl,poN,poS,oSl,e1,e2,o1,o2,e3,EX,yq,A4,sz7])<;>rfl
end My
namespace L3
open PySem PySem.Spec PyProof.Rows
open PySem.Builtin.Str (occurrences strSub subAt partsBetween)
open PySem.StrLaws (At ChainG partsFrom)
def dg (m:Nat):List Nat:=(Nat.toDigits 10 m).map Char.toNat
def TC (m:Nat):Str.ofString (toString ((m:Nat):Int))=tx (dg m):=by
 rw[<-S8 (Str.ofString (toString ((m:Nat):Int))),PySem.W.KIN.signs_num];rfl
def Jr {m:Nat} (h:m<10):dg m=[48+m]:=by
 unfold dg;rw[Nat.toDigits_of_lt_base h];have:∀d:Nat,d<10->[Nat.digitChar d].map Char.toNat=[48+d]:=by decide
 exact this m h
def TF {m:Nat} (h:10<=m):dg m=dg (m / 10)++[48+m%10]:=by
 have hm:m%10<10:=Nat.mod_lt m (by decide)
 have t:Nat.toDigits 10 (m / 10)++Nat.toDigits 10 (m%10)=Nat.toDigits 10 (10*(m / 10)+m%10):=Nat.toDigits_append_toDigits (by decide) (by lia) hm
 rw[Nat.div_add_mod]at t;show (Nat.toDigits 10 m).map Char.toNat=_;rw[<-t,By];show dg (m / 10)++dg (m%10)=_;rw[Jr hm]
theorem M7:∀(k m:Nat),m<10 ^ (k+1)->(dg m).length<=k+1
 |0,m,h=>by rw[Jr (by lia)];exact Nat.le_refl _
 |k+1,m,h=>by
  by_cases q:m<10
  .rw[Jr q];simp
  .rw[TF (by lia),An]
   have:=M7 k (m / 10) (by rw[Nat.pow_succ]at h;lia)
   simp;lia
end L3
namespace My
open PySem L2 L3
def M8 (ns:List Int) (h:H3):f_law_cell_at [.scr ns,.int 0] h=.ok (.v (.int (cell ns 0))) h:=CI ns 0 h
def TH (ns:List Int) (h:H3):f_law_cell_at [.scr ns,.int 1] h=.ok (.v (.int (cell ns 1))) h:=CI ns 1 h
def TJ (ns:List Int) (h:H3):f_law_cell_at [.scr ns,.int 11] h=.ok (.v (.int (cell ns 11))) h:=CI ns 11 h
def TK (ns:List Int) (h:H3):f_law_cell_at [.scr ns,.int 12] h=.ok (.v (.int (cell ns 12))) h:=CI ns 12 h
def M9 (ns:List Int) (h:H3):f_law_cell_at [.scr ns,.int 13] h=.ok (.v (.int (cell ns 13))) h:=CI ns 13 h
def Hs (ns:List Int) (h:H3):f_law_cell_at [.scr ns,.int 14] h=.ok (.v (.int (cell ns 14))) h:=CI ns 14 h
structure Ls (w:Int) (S:List V3) (S0 bad:V3):Prop where
 len:S.length<=8
 hd:S[0]? =some S0
 all:∀v∈S,Gd w v
 br:Rv bad
 bb:yM w bad=false
def QL (w:Int) (h:H3) (R:Res Vl):Prop:=∃S A bad S0,R=.ok (.m (.lst [.lst S,.lst (l9 w S A bad S0),.lst (gs w (yI w))])) h/\Ls w S S0 bad
noncomputable abbrev yP (w:Int) (ns:List Int) (n:Int) (x3 x4 x5 x6 x7:Option Vl):S3:=[some (.v (.int w)),some (.v (.scr ns)),some (.v (.int n)),x3,x4,x5,x6,x7]
section
variable {w n a m:Int} {ns:List Int} {h:H3} {S L7 L8 L9 G RP:List V3} {bad S0:V3}
def t1 (m1:f_law_mixed [.int (cell ns 1),.int 1] h=.ok (.v (.int n)) h) {x2:Option Vl}:sSet 2 (eCall f_law_mixed (aCons (pE (eCall f_law_cell_at (aCons (pV 1) (aCons (kJ 1) aNil)))) (aCons (kJ 1) aNil))) [some (.v (.int w)),some (.v (.scr ns)),x2,none,none,none,none,none] h=.nx (yP w ns n none none none none none) h:=by (simp![TH,m1])<;>rfl
def t2 (c1:DB (yP w ns n none none none none none) h=.ok (.m (.lst S)) h):sSet 3 DB (yP w ns n none none none none none) h=.nx (yP w ns n (some (.m (.lst S))) none none none none) h:=by (simp![c1])<;>rfl
def t3 {l:Int} (hk:0<l+1) (ha:n / 8%(l+1)=a) (eb:∀s:S3,s[3]? =some (some (.m (.lst S)))->bLen s h [.s 3]=some (.v (.int l))):sSet 4 (eOp zx (pE (eOp oDiv (pV 2) (kJ 8))) (pE (eOp zk (pE (eB bLen (aCons (pV 3) aNil))) (kJ 1)))) (yP w ns n (some (.m (.lst S))) none none none none) h=.nx (yP w ns n (some (.m (.lst S))) (some (.v (.int a))) none none none) h:=by
 have e:=eb (yP w ns n (some (.m (.lst S))) none none none none) rfl;generalize hg:bLen=B at*
 (simp![e,oMod_int hk,ha])<;>rfl
def t4 {q:Int} (m2:f_law_mixed [.int (cell ns 11),.int 2] h=.ok (.v (.int q)) h) (eb:f_law_bad [.int w,.int q] h=.ok (.v bad) h) {x3 x4:Option Vl}:sSet 5 (eCall f_law_bad (aCons (pV 0) (aCons (pE (eCall f_law_mixed (aCons (pE (eCall f_law_cell_at (aCons (pV 1) (aCons (kJ 11) aNil)))) (aCons (kJ 2) aNil)))) aNil))) (yP w ns n x3 x4 none none none) h=.nx (yP w ns n x3 x4 (some (.v bad)) none none) h:=by (simp![TJ,m2,eb])<;>rfl
def t5 (ma:atI [V3.int 200,.int 200,.int 16] w=some (.int m)) {x3 x4 x5:Option Vl}:sSet 6 (eOp zD (pE (eLst (aCons (kJ 200) (aCons (kJ 200) (aCons (kJ 16) aNil))))) (pV 0)) (yP w ns n x3 x4 x5 none none) h=.nx (yP w ns n x3 x4 x5 (some (.v (.int m))) none) h:=by (simp![ma])<;>rfl
def t8 {x3 x4 x5 x6:Option Vl} (k2:DC (yP w ns n x3 x4 x5 x6 (some (.m (.lst L7)))) h=.ok (.m (.lst G)) h) (ap1:y6 L7 [.lst G]=some (L8,.non)):qJ y6 (pV 7) (aCons (pE DC) aNil) (yP w ns n x3 x4 x5 x6 (some (.m (.lst L7)))) h=.nx (yP w ns n x3 x4 x5 x6 (some (.m (.lst L8)))) h:=by (simp![k2,ap1])<;>rfl
def t9 {x4 x5:Option Vl} (h0:atI S 0=some S0) (om:∀s,zY s h (.x (.lst [S0])) (.x (.int (m+1)))=some (.m (.lst RP))) (ap2:y6 L8 [.lst RP]=some (L9,.non)):qJ y6 (pV 7) (aCons (pE (eOp zY (pE (eLst (aCons (pE (eOp zD (pV 3) (kJ 0))) aNil))) (pE (eOp zk (pV 6) (kJ 1))))) aNil) (yP w ns n (some (.m (.lst S))) x4 x5 (some (.v (.int m))) (some (.m (.lst L8)))) h=.nx (yP w ns n (some (.m (.lst S))) x4 x5 (some (.v (.int m))) (some (.m (.lst L9)))) h:=by
 have e3:∀x0 x1 x2 x4 x5 x6 x7,zD [x0,x1,x2,some (.m (.lst S)),x4,x5,x6,x7] h (.s 3) (.x (.int 0))=some (.v S0):=fun x0 x1 x2 x4 x5 x6 x7=>by
  rw[Jb];simp only[Dw,Dv,h0,A4]
 (simp![e3,om,ap2])<;>rfl
def tA {x4 x5 x6:Option Vl} (k3:DD (yP w ns n (some (.v (.lst S))) x4 x5 x6 (some (.v (.lst L9)))) h=.ok (.m (.lst G)) h):(sSeq (sFz 7) (sSeq (sFz 3) (sRet (eLst (aCons (pV 3) (aCons (pV 7) (aCons (pE DD) aNil)))))) (yP w ns n (some (.m (.lst S))) x4 x5 x6 (some (.m (.lst L9)))) h).res=.ok (.m (.lst [.lst S,.lst L9,.lst G])) h:=by (simp![k3])<;>rfl
end
def TL {w:Int} (hw:Way w) (ns:List Int) (h:H3):QL w h (f_law_lists [.int w,.scr ns] h):=by
 unfold f_law_lists Iz
 refine BE rfl ?_
 have m1:=FV (cell ns 1) 1 h;have m2:=FV (cell ns 11) 2 h;have b1:=FU (cell ns 1) 1;have b2:=FU (cell ns 11) 2;generalize mix (cell ns 1) 1=n at*;obtain⟨bad,eb,rb,bb⟩:=T4 hw b2.1 b2.2 h;have c1:=T8 hw ns n h (r:=[none,none,none,none,none]);have sl:=T6 w ns (1+n%8).toNat;have so:=T7 hw (ns:=ns) (N:=(1+n%8).toNat);generalize sm w ns (1+n%8).toNat=S at*;have hl:S.length<=8:=by lia
 have hp:0<S.length:=by lia
 obtain⟨S0,h0⟩:∃S0,S[0]? =some S0:=⟨S[0],z0 hp⟩;have hk0:(0:Int)<(S.length:Int)+1:=by lia
 have a0:=Int.emod_nonneg (n / 8) (show (S.length:Int)+1≠0 by lia)
 obtain⟨A,hA⟩:=Gf a0;have ma:=T5 hw;have mb:=Jq w;have om:=fun s=>M5 (s:=s) (h:=h) (v:=S0) (k:=(yI w:Int)+1) (by lia)
 rw[show ((yI w:Int)+1).toNat=yI w+1 by lia]at om
 have ap1:y6 (l7 S A bad S0) [.lst (gs w (yI w+1))]=some (l7 S A bad S0++[.lst (gs w (yI w+1))],.non):=mAppend_ok (by have:=yL;simp;lia)
 have ap2:y6 (l7 S A bad S0++[.lst (gs w (yI w+1))]) [.lst (List.replicate (yI w+1) S0)]=some (l9 w S A bad S0,.non):=mAppend_ok (by have:=yL;simp;lia)
 refine zO (t1 m1) ?_
 refine zO (t2 c1) ?_
 refine zO (t3 hk0 hA fun s e=>by unfold bLen;simp only[rdl,e,A4]) ?_
 refine zO (t4 m2 eb) ?_
 refine zO (t5 ma) ?_
 refine zO (s1:=yP w ns n (some (.m (.lst S))) (some (.v (.int (A:Int)))) (some (.v bad)) (some (.v (.int (yI w:Int)))) none) (h1:=h) rfl ?_
 refine zO (set7 (bad:=bad) (A:=A) hl h0 h) ?_
 refine zO (t8 (T9 hw mb.2 h) ap1) ?_
 refine zO (t9 (AC (j:=0) h0) om ap2) ?_
 exact⟨S,A,bad,S0,tA (TB hw mb.2 h),⟨hl,h0,so,rb,bb⟩⟩
noncomputable def clsW (w:Int):Str:=if w=2 then "NoCalendar" else "NoSpans"
noncomputable def Ht (w:Int):Int:=if w=2 then 2 else 3
def Hu {w:Int} (hw:Way w) {x r:V3} (hx:Hv x) (sr:Sv r) (hr:zy 1 16 r=true) (h:H3):if yr (yI w) (yM w) x=true then f_law_refusal [.int w,x,r] h=.ok (.v .non) h else ∃h',f_law_refusal [.int w,x,r] h=.ok (.v (.fn (clsW w) [])) h':=by
 rcases hw.o with rfl|rfl|rfl
 .have e:=Tj (r:=r) hx h
  show if yr 200 zP x=true then _ else _
  by_cases q:yr 200 zP x=true
  .rw[Aa q]at e ⊢;exact FX e
  .rw[Ab q]at e ⊢;exact⟨_,Mw e⟩
 .have e:=Tn (r:=r) hx h
  show if yr 200 (zy 0 10000000000) x=true then _ else _
  by_cases q:yr 200 (zy 0 10000000000) x=true
  .rw[Aa q]at e ⊢;exact FX e
  .rw[Ab q]at e ⊢;exact⟨_,Mw e⟩
 .have e:=Mv hx sr h
  rw[hr,Bool.and_true]at e;show if yr 16 zK x=true then _ else _
  by_cases q:yr 16 zK x=true
  .rw[Aa q]at e ⊢;exact FX e
  .rw[Ab q]at e ⊢;exact⟨_,Ho e⟩
def MA {w:Int} (hw:Way w) (h:H3):f_law_kinds [.fn (clsW w) []] h=.ok (.m (.lst ((dv (Ht w)).map .bl))) h:=by
 rcases hw.o with rfl|rfl|rfl
 .have:=FY (c:="NoSpans") (by decide+kernel) [] h
  rwa [Gg 3 (by decide) "NoSpans" rfl]at this
 .have:=FY (c:="NoSpans") (by decide+kernel) [] h
  rwa [Gg 3 (by decide) "NoSpans" rfl]at this
 .have:=FY (c:="NoCalendar") (by decide+kernel) [] h
  rwa [Gg 2 (by decide) "NoCalendar" rfl]at this
def Js (h:H3):f_law_kinds [.fn ("NoCalendar" :Str) []] h=.ok (.m (.lst ((dv 2).map .bl))) h:=MA (w:=2) ⟨by decide⟩ h
def DK {w:Int} {xs:List V3} (h:∀v∈xs,Gd w v):Hv (.lst xs):=⟨.lst _,fun ys e v hv=>by cases e;exact (h v hv).r⟩
def Jt {w:Int} {xs:List V3} {n:Nat} (h:∀v∈xs,Gd w v) (hl:xs.length<=n):yr n (yM w) (.lst xs)=true:=by
 show (decide (xs.length<=n) && xs.all (yM w))=true;rw[Bp hl,Bu];exact Cm.mpr fun v hv=>(h v hv).ok
def MB {w:Int} {xs:List V3} {n:Nat} (hl:n<xs.length):yr n (yM w) (.lst xs)=false:=by
 show (decide (xs.length<=n) && xs.all (yM w))=false;rw[A6 (by lia),A9]
def TM {w:Int} (hw:Way w) (xs:List V3):yM w (.lst xs)=false:=by rcases hw.o with rfl|rfl|rfl<;>rfl
def MC {w:Int} {v:V3} {n:Nat} (h:Gd w v):∀u∈List.replicate n v,Gd w u:=fun u hu=>by rw[(List.mem_replicate.mp hu).2];exact h
def TN {w:Int} (hw:Way w) {S:List V3} {A:Nat} {bad S0:V3} (o:Ls w S S0 bad):∀x∈l9 w S A bad S0,Hv x/\yr (yI w) (yM w) x=false:=by
 have g0:Gd w S0:=o.all S0 (Am o.hd);have mb:=Jq w;intro x hx;simp only[Bi,Ag,C8,Cg]at hx
 rcases hx with ((rfl|rfl|rfl|rfl|rfl|rfl|rfl)|rfl)|rfl
 .refine⟨⟨.lst _,fun ys e v hv=>?_⟩,?_⟩
  .cases e
   rcases Bi.mp hv with z|z
   .rcases Bi.mp z with z|z
    .exact (o.all v (Bc z)).r
    .rw[Bm.mp z];exact o.br
   .exact (o.all v (Eh z)).r
  .show (decide _ && (S.take A++[bad]++S.drop A).all (yM w))=false
   rw[List.all_append,List.all_append,List.all_cons,o.bb,A9,C9,A9,C9]
 .exact⟨⟨.tup _,fun ys e=>by cases e⟩,rfl⟩
 .exact⟨⟨.non,fun ys e=>by cases e⟩,rfl⟩
 .exact⟨⟨.int _,fun ys e=>by cases e⟩,rfl⟩
 .exact⟨⟨.str _,fun ys e=>by cases e⟩,rfl⟩
 .exact⟨⟨.dct,fun ys e=>by cases e⟩,rfl⟩
 .have ok:=g0.ok
  cases g0.r.s with
  |lst xs=>rw[TM hw]at ok;cases ok
  |int i=>exact⟨⟨.int _,fun ys e=>by cases e⟩,rfl⟩
  |bl b=>exact⟨⟨.bl _,fun ys e=>by cases e⟩,rfl⟩
  |non=>exact⟨⟨.non,fun ys e=>by cases e⟩,rfl⟩
  |str z=>exact⟨⟨.str _,fun ys e=>by cases e⟩,rfl⟩
  |tup xs=>exact⟨⟨.tup _,fun ys e=>by cases e⟩,rfl⟩
  |dct=>exact⟨⟨.dct,fun ys e=>by cases e⟩,rfl⟩
 .exact⟨DK (M4 hw (by lia)),MB (by rw[M3];lia)⟩
 .exact⟨DK (MC g0),MB (by rw[B2];lia)⟩
def TQ (i:Int) (h0:0<=i) (h1:i<100000000000000000000):∃z:Str,z.length<=1000/\∃y,(∀(s:S3) (h:H3),CZ s h [.x (.int i)]=some (.v (.str y)))/\∀(s:S3) (h:H3),zk s h (.x (.str ("n" :Str))) (.x (.str y))=some (.v (.str z)):=by
 obtain⟨k,rfl⟩:=Gf h0;have hl:(dg k).length<=20:=M7 19 k (by lia)
 have en:("n" :Str)=tx [110]:=by decide+kernel
 refine⟨tx ([110]++dg k),by rw[Ml];simp;lia,tx (dg k),fun s h=>?_,fun s h=>?_⟩
 .have h1:((k:Nat):Int).natAbs.log2<1920:=by
   rw[Int.natAbs_natCast]
   by_cases z:k=0
   .rw[z];decide
   .have:=(Nat.log2_lt z).mpr (show k<2 ^ 67 by lia)
    lia
  show (if ((k:Nat):Int).natAbs.log2<1920 then some (Vl.v (.str (Str.ofString (toString ((k:Nat):Int))))) else none)=_
  rw[Aa h1,TC]
 .rw[en];exact SA (by have:=yL;simp;lia)
def bw3:D3:=(sSeq (sSet 5 (eOp zD (pE (eLst (aCons (pE (eCall f_law_odd (aCons (pE (eCall f_law_mixed (aCons (pE (eCall f_law_cell_at (aCons (pV 0) (aCons (kJ 13) aNil)))) (aCons (kJ 4) aNil)))) (aCons (kJ 0) (aCons (kJ 200) aNil))))) (aCons (kJ 5) aNil)))) (pE (eOp zx (pE (eCall f_law_cell_at (aCons (pV 0) (aCons (kJ 14) aNil)))) (kJ 2))))) (sSeq (sFz 4) (sSeq (sSet 6 (eOp zD (pE (eLst (aCons (kJ 3) (aCons (pV 4) aNil)))) (pE (eOp zx (pE (eCall f_law_cell_at (aCons (pV 0) (aCons (kJ 14) aNil)))) (kJ 2))))) (sSeq (sIf (tOr3 (tE (eOp (oIsN true) (pE (eCall f_law_refusal (aCons (pV 1) (aCons (kJ 0) (aCons (kJ 1) aNil))))) (pE (eC .non)))) (tE (eOp (oIsN true) (pE (eCall f_law_refusal (aCons (pV 1) (aCons (kJ 200) (aCons (kJ 16) aNil))))) (pE (eC .non))))) (sRet (eC (.bl false))) sSkip) (sSeq (sSet 7 (eCall f_law_refusal (aCons (pV 1) (aCons (pV 5) (aCons (pV 6) aNil))))) (sSeq (sFz 7) (sRet (eAnd (eOp (oIsN true) (pV 7) (pE (eC .non))) (eOp z9 (pE (eCall f_law_kinds (aCons (pV 7) aNil))) (pE (eCall f_law_due (aCons (pV 2) aNil))))))))))))
noncomputable abbrev s3 (ns:List Int) (z od:V3) (x5 x6 x7:Option Vl):S3:=[some (.v (.scr ns)),some (.v (.int 3)),some (.v (.int 2)),some (.v z),some (.v od),x5,x6,x7,none,none,none,none,none]
def r3a {g:C3} (hg:g=.tab\/g=.tb2):f_law_refusal [.int 3,.int 0,.int 1] [g]=.ok (.v .non) [.tb2]:=by
 have e:=Jm (N:=0) (by decide) (r:= .int 1) hg (.int 1)
 rw[Aa (qg (by decide) (by decide))]at e
 exact FX e
def r3b {g:C3} (hg:g=.tab\/g=.tb2):f_law_refusal [.int 3,.int 200,.int 16] [g]=.ok (.v .non) [.tb2]:=by
 have e:=Jm (N:=200) (by decide) (r:= .int 16) hg (.int 16)
 rw[Aa (qg (by decide) (by decide))]at e
 exact FX e
def way3 (ns:List Int) (z od:V3) (so:Sv od) (bo:zy 1 16 od=false) {Q:Res Vl->Prop} (hQ:∀h,Q (.ok (.v (.bl true)) h)):Q ((bw3 (s3 ns z od none none none) [.tab]).res):=by
 unfold bw3;have m4:=FV (cell ns 13) 4 [.tab];have b4:=FU (cell ns 13) 4;generalize mix (cell ns 13) 4=n at*;obtain⟨v,ev',rv,bv⟩:=DJ b4.1 b4.2 0 200 [.tab];have hm:cell ns 14%2=0\/cell ns 14%2=1:=by lia
 have d2:=FZ 2
 rcases hm with q|q
 .refine zO (s1:=s3 ns z od (some (.v v)) none none) (h1:=[.tab]) (by (simp![M9,Hs,m4,ev',q])<;>rfl) ?_
  refine zO (s1:=s3 ns z od (some (.v v)) none none) (h1:=[.tab]) (by (simp![])<;>rfl) ?_
  refine zO (s1:=s3 ns z od (some (.v v)) (some (.v (.int 3))) none) (h1:=[.tab]) (by (simp![Hs,q])<;>rfl) ?_
  refine zO (s1:=s3 ns z od (some (.v v)) (some (.v (.int 3))) none) (h1:=[.tb2]) (by (simp![r3a (.inl rfl),r3b (.inr rfl)])<;>rfl) ?_
  have e:=Ho (To (r:= .int 3) (.inr rfl) rv.s bv)
  refine zO (s1:=s3 ns z od (some (.v v)) (some (.v (.int 3))) (some (.v (.fn ("NoCalendar" :Str) [])))) (h1:=[.tb2]) (by (simp![e])<;>rfl) ?_
  refine zO (s1:=s3 ns z od (some (.v v)) (some (.v (.int 3))) (some (.v (.fn ("NoCalendar" :Str) [])))) (h1:=[.tb2]) (by (simp![])<;>rfl) ?_
  (simp![Js,d2,Mz])<;>exact hQ _
 .refine zO (s1:=s3 ns z od (some (.v (.int 5))) none none) (h1:=[.tab]) (by (simp![M9,Hs,m4,ev',q])<;>rfl) ?_
  refine zO (s1:=s3 ns z od (some (.v (.int 5))) none none) (h1:=[.tab]) (by (simp![])<;>rfl) ?_
  refine zO (s1:=s3 ns z od (some (.v (.int 5))) (some (.v od)) none) (h1:=[.tab]) (by (simp![Hs,q])<;>rfl) ?_
  refine zO (s1:=s3 ns z od (some (.v (.int 5))) (some (.v od)) none) (h1:=[.tb2]) (by (simp![r3a (.inl rfl),r3b (.inr rfl)])<;>rfl) ?_
  have e0:=Jm (N:=5) (by decide) (r:=od) (g:= .tb2) (.inr rfl) so
  rw[bo,Ab (by decide)]at e0
  have e:f_law_refusal [.int 3,.int 5,od] [.tb2]=.ok (.v (.fn ("NoCalendar" :Str) [])) [.tb2,.ins "Calendar" []]:=Ho e0
  refine zO (s1:=s3 ns z od (some (.v (.int 5))) (some (.v od)) (some (.v (.fn ("NoCalendar" :Str) [])))) (h1:=[.tb2,.ins "Calendar" []]) (by (simp![e])<;>rfl) ?_
  refine zO (s1:=s3 ns z od (some (.v (.int 5))) (some (.v od)) (some (.v (.fn ("NoCalendar" :Str) [])))) (h1:=[.tb2,.ins "Calendar" []]) (by (simp![])<;>rfl) ?_
  (simp![Js,d2,Mz])<;>exact hQ _
def bwL:D3:=(sSeq Hf (sSeq (sSet 12 (eB bList (aCons (pV 8) aNil))) (sSeq (sIf (tE (eOp (oIsN true) (pE (eCall f_law_refusal (aCons (pV 1) (aCons (pE (eOp zY (pE (eLst (aCons (pE (eOp zD (pV 8) (kJ 0))) aNil))) (pE (eB bLen (aCons (pV 10) aNil))))) (aCons (kJ 16) aNil))))) (pE (eC .non)))) (sRet (eC (.bl false))) sSkip) (sRet (eAnd (eOp (oIsN false) (pE (eCall f_law_refusal (aCons (pV 1) (aCons (pV 8) (aCons (kJ 1) aNil))))) (pE (eC .non))) (eAnd (eOp (oIsN false) (pE (eCall f_law_refusal (aCons (pV 1) (aCons (pV 10) (aCons (kJ 16) aNil))))) (pE (eC .non))) (eOp z9 (pV 8) (pV 12))))))))
noncomputable abbrev sL (ns:List Int) (w k:Int) (z od:V3) (S L G:List V3) (x7 x11 x12:Option Vl):S3:=[some (.v (.scr ns)),some (.v (.int w)),some (.v (.int k)),some (.v z),some (.v od),none,none,x7,some (.v (.lst S)),some (.v (.lst L)),some (.v (.lst G)),x11,x12]
def in1:zy 1 16 (.int 1)=true:=qg (by decide) (by decide)
def in16:zy 1 16 (.int 16)=true:=qg (by decide) (by decide)
section
variable {w k:Int} {ns:List Int} {z od S0:V3} {S L G RP:List V3} {h h2:H3} {c:Str} {bs:List Bool}
def u1 {x:V3} {y7 y11:Option Vl} (e:f_law_refusal [.int w,x,.int 1] h=.ok (.v (.fn c [])) h2) (ck:f_law_kinds [.fn c []] h2=.ok (.m (.lst (bs.map .bl))) h2) (dk:f_law_due [.int k] h2=.ok (.m (.lst (bs.map .bl))) h2):gb (gN 11) (sSeq (sSet 7 (eCall f_law_refusal (aCons (pV 1) (aCons (pV 11) (aCons (kJ 1) aNil))))) (sSeq (sFz 7) (sIf (tOr3 (tE (eOp (oIsN false) (pV 7) (pE (eC .non)))) (tE (eOp yO (pE (eCall f_law_kinds (aCons (pV 7) aNil))) (pE (eCall f_law_due (aCons (pV 2) aNil)))))) (sRet (eC (.bl false))) sSkip))) x (sL ns w k z od S L G y7 y11 none) h=.nx (sL ns w k z od S L G (some (.v (.fn c []))) (some (.v x)) none) h2:=by (simp![e,ck,dk,Hq])<;>rfl
def u2 {y7 y11:Option Vl}:(sSet 12 (eB bList (aCons (pV 8) aNil))) (sL ns w k z od S L G y7 y11 none) h=.nx (sL ns w k z od S L G y7 y11 (some (.m (.lst S)))) h:=by (simp![])<;>rfl
def u3g {ex:E3} {s:S3} (h1:s[1]? =some (some (.v (.int w)))) (he:ex s h=.ok (.m (.lst RP)) h) (r1:f_law_refusal [.int w,.lst RP,.int 16] h=.ok (.v .non) h):(sIf (tE (eOp (oIsN true) (pE (eCall f_law_refusal (aCons (pV 1) (aCons (pE ex) (aCons (kJ 16) aNil))))) (pE (eC .non)))) (sRet (eC (.bl false))) sSkip) s h=.nx s h:=by (simp![he,h1,r1])<;>rfl
def u3m {e1 e2:E3} {s:S3} {l:Int} (h1:e1 s h=.ok (.m (.lst [S0])) h) (h2:e2 s h=.ok (.v (.int l)) h) (om:zY s h (.x (.lst [S0])) (.x (.int l))=some (.m (.lst RP))):eOp zY (pE e1) (pE e2) s h=.ok (.m (.lst RP)) h:=by (simp![h1,h2,om])<;>rfl
def u3a {s:S3} (h8:s[8]? =some (some (.v (.lst S)))) (a0:atI S 0=some S0):eLst (aCons (pE (eOp zD (pV 8) (kJ 0))) aNil) s h=.ok (.m (.lst [S0])) h:=by (simp![h8,a0])<;>rfl
def u3b {s:S3} (h10:s[10]? =some (some (.v (.lst G)))):eB bLen (aCons (pV 10) aNil) s h=.ok (.v (.int (G.length:Int))) h:=by (simp![h10])<;>rfl
def u4 {y7 y11:Option Vl} (r2:f_law_refusal [.int w,.lst S,.int 1] h=.ok (.v .non) h) (r3:f_law_refusal [.int w,.lst G,.int 16] h=.ok (.v .non) h) (eq:z9 (sL ns w k z od S L G y7 y11 (some (.m (.lst S)))) h (.x (.lst S)) (.s 12)=some (.v (.bl true))):((sRet (eAnd (eOp (oIsN false) (pE (eCall f_law_refusal (aCons (pV 1) (aCons (pV 8) (aCons (kJ 1) aNil))))) (pE (eC .non))) (eAnd (eOp (oIsN false) (pE (eCall f_law_refusal (aCons (pV 1) (aCons (pV 10) (aCons (kJ 16) aNil))))) (pE (eC .non))) (eOp z9 (pV 8) (pV 12))))) (sL ns w k z od S L G y7 y11 (some (.m (.lst S)))) h).res=.ok (.v (.bl true)) h:=by (simp![r2,r3,eq])<;>rfl
end
def ways {w:Int} (hw:Way w) (ns:List Int) (z od:V3) {S:List V3} {A:Nat} {S0 bad:V3} (o:Ls w S S0 bad) {x7:Option Vl} (h:H3) {Q:Res Vl->Prop} (hQ:∀h,Q (.ok (.v (.bl true)) h)):Q ((bwL (sL ns w (Ht w) z od S (l9 w S A bad S0) (gs w (yI w)) x7 none none) h).res):=by
 have hl9:=TN hw (A:=A) o;have g0:Gd w S0:=o.all S0 (Am o.hd);have mb:=Jq w;generalize l9 w S A bad S0=L at*;have gl:=M3 w (yI w);have gk:=M4 hw (n:=yI w) (by lia)
 have gok:=Jt gk (Nat.le_of_eq gl);generalize gs w (yI w)=G at*;unfold bwL Hf
 refine it_E (l:=L) (enc:=id) (its:=[.lst L]) (ok:=fun _=>True) (by rw[D1];rfl) (fun i s h'=> ∃x7 x11,s=sL ns w (Ht w) z od S L G x7 x11 none) (fun _ _ _ _=>trivial) ⟨_,_,rfl⟩ ?_ ?_
 .rintro i x s h' hi ⟨y7,y11,rfl⟩
  obtain⟨hx,bx⟩:=hl9 x (Am hi);have r:=Hu hw hx (.int 1) in1 h';rw[bx,Ab (by decide)]at r
  obtain⟨h2,e⟩:=r;exact .inl ⟨_,_,.inl (u1 e (MA hw h2) (FZ _ h2)),_,_,rfl⟩
 .rintro s h' ⟨y7,y11,rfl⟩
  refine zO u2 ?_
  have om:=fun s=>M5 (s:=s) (h:=h') (v:=S0) (k:=(G.length:Int)) (by lia)
  rw[Fl]at om;have rk:∀u∈List.replicate G.length S0,Gd w u:=MC g0;have r1:=Hu hw (DK rk) (.int 16) in16 h';rw[Aa (Jt rk (by rw[B2];lia))]at r1
  refine zO (u3g rfl (u3m (u3a rfl (AC (j:=0) o.hd)) (u3b rfl) (om _)) r1) ?_
  have r2:=Hu hw (DK o.all) (.int 1) in1 h';rw[Aa (Jt o.all (by have:=o.len;lia))]at r2
  have r3:=Hu hw (DK gk) (.int 16) in16 h';rw[Aa gok]at r3;rw[u4 r2 r3 (Mo FT (SM rfl) fun x hx=>(o.all x hx).e h' 7)]
  exact hQ _
noncomputable abbrev sj (ns:List Int) (x1 x2 x3 x4 x7 x8 x9 x10:Option Vl):S3:=[some (.v (.scr ns)),x1,x2,x3,x4,none,none,x7,x8,x9,x10,none,none]
def TR {o:O3} {b:Bool} {h:H3} (e:o.res=.ok (.v (.bl b)) h):o=.rt (.v (.bl b)) h:=by
 cases o<;>simp only[O3.res]at e
 case rt r h'=>cases e;rfl
 all_goals cases e
section
variable {ns:List Int} {w k c:Int} {z y:Str} {od:V3} {h h2:H3} {S L G:List V3}
def v1 (ec:cell ns 0%4=w):(sSet 1 (eOp zx (pE (eCall f_law_cell_at (aCons (pV 0) (aCons (kJ 0) aNil)))) (kJ 4))) (sj ns none none none none none none none none) h=.nx (sj ns (some (.v (.int w))) none none none none none none none) h:=by (simp![M8,ec])<;>rfl
def v2 (ek:atI [V3.int 3,.int 3,.int 2,.int 2] w=some (.int k)):(sSet 2 (eOp zD (pE (eLst (aCons (kJ 3) (aCons (kJ 3) (aCons (kJ 2) (aCons (kJ 2) aNil)))))) (pV 1))) (sj ns (some (.v (.int w))) none none none none none none none) h=.nx (sj ns (some (.v (.int w))) (some (.v (.int k))) none none none none none none) h:=by (simp![ek])<;>rfl
def v3 {x1 x2:Option Vl} (ec:cell ns 0%100000000000000000000=c) (e1:∀(s:S3) (h:H3),CZ s h [.x (.int c)]=some (.v (.str y))) (e2:∀(s:S3) (h:H3),zk s h (.x (.str ("n" :Str))) (.x (.str y))=some (.v (.str z))):(sSet 3 (eOp zk (pE (eC (.str ("n" :Str)))) (pE (eB CZ (aCons (pE (eOp zx (pE (eCall f_law_cell_at (aCons (pV 0) (aCons (kJ 0) aNil)))) (pE (eOp zU (kJ 10) (kJ 20))))) aNil))))) (sj ns x1 x2 none none none none none none) h=.nx (sj ns x1 x2 (some (.v (.str z))) none none none none none) h:=by (simp![M8,p20,oMod_int (show (0:Int)<100000000000000000000 by decide),ec,e1,e2])<;>rfl
def v5 {x1 x2:Option Vl} (ee:f_law_errors [.str z] h=.ok (.v (.bl true)) h) (w1:f_is_whole [.bl true] h=.ok (.v (.bl false)) h) (w2:f_is_whole [.str z] h=.ok (.v (.bl false)) h) (w3:f_is_whole [.int 0] h=.ok (.v (.bl true)) h):(sIf (tOr3 (tNot3 (tE (eCall f_law_errors (aCons (pV 3) aNil)))) (tOr3 (tE (eOp (oIsB true) (pE (eCall f_is_whole (aCons (pE (eC (.bl true))) aNil))) (pE (eC (.bl false))))) (tOr3 (tE (eOp (oIsB true) (pE (eCall f_is_whole (aCons (pV 3) aNil))) (pE (eC (.bl false))))) (tE (eOp (oIsB true) (pE (eCall f_is_whole (aCons (kJ 0) aNil))) (pE (eC (.bl true)))))))) (sRet (eC (.bl false))) sSkip) (sj ns x1 x2 (some (.v (.str z))) none none none none none) h=.nx (sj ns x1 x2 (some (.v (.str z))) none none none none none) h:=by (simp![ee,w1,w2,w3,oIsB])<;>rfl
def v6 {x1 x2 x3:Option Vl} {n:Int} (m3:f_law_mixed [.int (cell ns 12),.int 3] h=.ok (.v (.int n)) h) (eo:f_law_odd [.int n,.int 1,.int 16] h=.ok (.v od) h):(sSet 4 (eCall f_law_odd (aCons (pE (eCall f_law_mixed (aCons (pE (eCall f_law_cell_at (aCons (pV 0) (aCons (kJ 12) aNil)))) (aCons (kJ 3) aNil)))) (aCons (kJ 1) (aCons (kJ 16) aNil))))) (sj ns x1 x2 x3 none none none none none) h=.nx (sj ns x1 x2 x3 (some (.v od)) none none none none) h:=by (simp![TK,m3,eo])<;>rfl
def v7y {a r:D3} {s:S3} {v:Vl} (h1:s[1]? =some (some (.v (.int 3)))) (ea:a s h=.rt v h2):(sSeq (sIf (tE (eOp z9 (pV 1) (kJ 3))) a sSkip) r s h).res=.ok v h2:=by (simp![h1,ea])<;>rfl
def v7n {a:D3} {s:S3} (h1:s[1]? =some (some (.v (.int w)))) (hw:w≠3):(sIf (tE (eOp z9 (pV 1) (kJ 3))) a sSkip) s h=.nx s h:=by (simp![h1,hw])<;>rfl
def v8 {x2 x3 x4:Option Vl} (e:f_law_lists [.int w,.scr ns] h=.ok (.m (.lst [.lst S,.lst L,.lst G])) h):(sAsg (gL (gsCons (gN 8) (gsCons (gN 9) (gsCons (gN 10) gsNil)))) (eCall f_law_lists (aCons (pV 1) (aCons (pV 0) aNil)))) (sj ns (some (.v (.int w))) x2 x3 x4 none none none none) h=.nx (sj ns (some (.v (.int w))) x2 x3 x4 none (some (.v (.lst S))) (some (.v (.lst L))) (some (.v (.lst G)))) h:=by (simp![e,sAsg])<;>rfl
def v9y {x3 x9 x10:Option Vl} {bs:List Bool} {cl:Str} (e:f_law_refusal [.int 2,.lst S,od] h=.ok (.v (.fn cl [])) h2) (ck:f_law_kinds [.fn cl []] h2=.ok (.m (.lst (bs.map .bl))) h2) (dk:f_law_due [.int k] h2=.ok (.m (.lst (bs.map .bl))) h2):(sIf (tE (eOp z9 (pV 1) (kJ 2))) (sSeq (sFz 4) (sSeq (sSet 7 (eCall f_law_refusal (aCons (pV 1) (aCons (pV 8) (aCons (pV 4) aNil))))) (sSeq (sFz 7) (sIf (tOr3 (tE (eOp (oIsN false) (pV 7) (pE (eC .non)))) (tE (eOp yO (pE (eCall f_law_kinds (aCons (pV 7) aNil))) (pE (eCall f_law_due (aCons (pV 2) aNil)))))) (sRet (eC (.bl false))) sSkip)))) sSkip) (sj ns (some (.v (.int 2))) (some (.v (.int k))) x3 (some (.v od)) none (some (.v (.lst S))) x9 x10) h=.nx (sj ns (some (.v (.int 2))) (some (.v (.int k))) x3 (some (.v od)) (some (.v (.fn cl []))) (some (.v (.lst S))) x9 x10) h2:=by (simp![e,ck,dk,Hq])<;>rfl
def v9n {a:D3} {s:S3} (h1:s[1]? =some (some (.v (.int w)))) (hw:w≠2):(sIf (tE (eOp z9 (pV 1) (kJ 2))) a sSkip) s h=.nx s h:=by (simp![h1,hw])<;>rfl
end
def law_yes:∀ns:List Int,ns.length<=63->∃h',f_law [.scr ns] [.tab]=.ok (.v (.bl true)) h':=by
 intro ns _
 let Q:Res Vl->Prop:=fun R=> ∃h',R=.ok (.v (.bl true)) h'
 have hQ:∀h,Q (.ok (.v (.bl true)) h):=fun h=>⟨h,rfl⟩
 show Q (f_law [.scr ns] [.tab]);unfold f_law IT
 refine BE rfl ?_
 generalize ec:cell ns 0%4=w;have hw4:w=0\/w=1\/w=2\/w=3:=by lia
 obtain⟨k,ek,hk⟩:∃k,atI [V3.int 3,.int 3,.int 2,.int 2] w=some (.int k)/\(w=3->k=2)/\(w≠3->k=Ht w):=by
  rcases hw4 with rfl|rfl|rfl|rfl
  .exact⟨3,rfl,by lia,fun _=>rfl⟩
  .exact⟨3,rfl,by lia,fun _=>rfl⟩
  .exact⟨2,rfl,by lia,fun _=>rfl⟩
  .exact⟨2,rfl,fun _=>rfl,by lia⟩
 generalize ei:cell ns 0%100000000000000000000=i;obtain⟨z,hz,hy⟩:=TQ i (by lia) (by lia)
 obtain⟨y,e1,e2⟩:=hy;have m3:=FV (cell ns 12) 3 [.tab];have b3:=FU (cell ns 12) 3;generalize mix (cell ns 12) 3=n at*;obtain⟨od,eo,ro,bo⟩:=DJ b3.1 b3.2 1 16 [.tab]
 refine zO (v1 ec) ?_
 refine zO (v2 ek) ?_
 refine zO (v3 ei e1 e2) ?_
 refine zO (s1:=sj ns (some (.v (.int w))) (some (.v (.int k))) (some (.v (.str z))) none none none none none) (h1:=[.tab]) rfl ?_
 refine zO (v5 (Tx z hz _) (Hn (.bl true) _) (Hn (.str z) _) (Hn (.int 0) _)) ?_
 refine zO (v6 m3 eo) ?_
 by_cases h3:w=3
 .subst h3
  obtain rfl:=hk.1 rfl;obtain⟨h',e⟩:=way3 ns (.str z) od ro.s bo (Q:=Q) hQ;have e:=TR e;unfold bw3 at e;exact⟨_,v7y rfl e⟩
 .obtain rfl:=hk.2 h3
  have hw:Way w:=⟨by lia⟩
  refine zO (v7n rfl h3) ?_
  obtain⟨S,A,bad,S0,el,o⟩:=TL hw ns [.tab]
  refine zO (v8 el) ?_
  by_cases h2:w=2
  .subst h2
   have e:=Mv (DK o.all) ro.s [.tab];rw[bo,C9,Ab (by decide)]at e
   have e:=Ho e
   refine zO (v9y e (Js _) (FZ _ _)) ?_
   exact ways hw ns (.str z) od o _ hQ
  .refine zO (v9n rfl h2) ?_
   exact ways hw ns (.str z) od o _ hQ
end My
namespace My
open PySem PySem.Spec PyProof.Rows L2 L3
def law_true:∀ns:List Int,ns.length<=63->∃h',f_law [.scr ns] [.tab]=.ok (.v (.bl true)) h':=law_yes
def txt {K:FG} {mg:Str->Option Value} {h:Heap} (X:K.In h) (G:h.Ns mainGlobals mg) (S:L4.seenK ask K=L4.good PySem.Challenge.pw_dueyard_k06_refused_turns_and_calendars ask) {c T0:Addr} (ht:PySem.W.tabIn K y0=some (c,T0)):∃T:Txt K mg,T.tcd=c/\T.ttb=T0:=by
 obtain⟨f0,d0,a0,F0⟩:=L4.def_at S 0 rfl;obtain⟨f1,d1,a1,F1⟩:=L4.def_at S 1 rfl;obtain⟨f2,d2,a2,F2⟩:=L4.def_at S 2 rfl;obtain⟨f3,d3,a3,F3⟩:=L4.def_at S 3 rfl;obtain⟨f4,d4,a4,F4⟩:=L4.def_at S 4 rfl;obtain⟨f5,d5,a5,F5⟩:=L4.def_at S 5 rfl;obtain⟨f6,d6,a6,F6⟩:=L4.def_at S 6 rfl;obtain⟨f7,d7,a7,F7⟩:=L4.def_at S 7 rfl;obtain⟨f8,d8,a8,F8⟩:=L4.def_at S 8 rfl;obtain⟨f9,d9,a9,F9⟩:=L4.def_at S 9 rfl;obtain⟨f10,d10,a10,F10⟩:=L4.def_at S 10 rfl;obtain⟨f11,d11,a11,F11⟩:=L4.def_at S 11 rfl;obtain⟨f12,d12,a12,F12⟩:=L4.def_at S 12 rfl;obtain⟨f13,d13,a13,F13⟩:=L4.def_at S 13 rfl;obtain⟨f14,d14,a14,F14⟩:=L4.def_at S 14 rfl;obtain⟨f15,d15,a15,F15⟩:=L4.def_at S 15 rfl;obtain⟨f16,d16,a16,F16⟩:=L4.def_at S 16 rfl;obtain⟨f17,d17,a17,F17⟩:=L4.def_at S 17 rfl;obtain⟨f18,d18,a18,F18⟩:=L4.def_at S 18 rfl;obtain⟨f19,d19,a19,F19⟩:=L4.def_at S 19 rfl;obtain⟨f20,d20,a20,F20⟩:=L4.def_at S 20 rfl;obtain⟨f21,d21,a21,F21⟩:=L4.def_at S 21 rfl;obtain⟨f22,d22,a22,F22⟩:=L4.def_at S 22 rfl;obtain⟨f23,d23,a23,F23⟩:=L4.def_at S 23 rfl;obtain⟨f24,d24,a24,F24⟩:=L4.def_at S 24 rfl;obtain⟨f25,d25,a25,F25⟩:=L4.def_at S 25 rfl;obtain⟨f26,d26,a26,F26⟩:=L4.def_at S 26 rfl;obtain⟨C0,c0⟩:=L4.cls_at S 0 rfl;obtain⟨g0,e0,A0,M0,I0⟩:=c0.meth 0 _ rfl;obtain⟨t0,v0⟩:=L4.int_at S 0 rfl;obtain⟨t1,v1⟩:=L4.int_at S 1 rfl;obtain⟨t2,v2⟩:=L4.int_at S 2 rfl;obtain⟨t3,v3⟩:=L4.int_at S 3 rfl;obtain⟨t4,v4⟩:=L4.int_at S 4 rfl;obtain⟨t5,v5⟩:=L4.int_at S 5 rfl;obtain⟨E0,h0,x0⟩:=L4.exc_at S 0 rfl;obtain⟨E1,h1,x1⟩:=L4.exc_at S 1 rfl;obtain⟨E2,h2,x2⟩:=L4.exc_at S 2 rfl;obtain⟨E3,h3,x3⟩:=L4.exc_at S 3 rfl;obtain⟨E4,h4,x4⟩:=L4.exc_at S 4 rfl;obtain⟨E5,h5,x5⟩:=L4.exc_at S 5 rfl;obtain⟨E6,h6,x6⟩:=L4.exc_at S 6 rfl;obtain⟨E7,h7,x7⟩:=L4.exc_at S 7 rfl;obtain⟨E8,h8,x8⟩:=L4.exc_at S 8 rfl;obtain⟨E9,h9,x9⟩:=L4.exc_at S 9 rfl;obtain⟨E10,h10,x10⟩:=L4.exc_at S 10 rfl;obtain⟨E11,h11,x11⟩:=L4.exc_at S 11 rfl;obtain⟨EC0,EB0,ef0,ed0,hC0,hB0,xI0,cB0,eF0⟩:=L4.xi_at S 0 rfl;cases (h8.symm.trans hC0);cases (h0.symm.trans hB0);obtain⟨EC1,EB1,ef1,ed1,hC1,hB1,xI1,cB1,eF1⟩:=L4.xi_at S 1 rfl;cases (h9.symm.trans hC1);cases (h0.symm.trans hB1);obtain⟨EC2,EB2,ef2,ed2,hC2,hB2,xI2,cB2,eF2⟩:=L4.xi_at S 2 rfl;cases (h10.symm.trans hC2);cases (h0.symm.trans hB2);obtain⟨EC3,EB3,ef3,ed3,hC3,hB3,xI3,cB3,eF3⟩:=L4.xi_at S 3 rfl;cases (h11.symm.trans hC3);cases (h0.symm.trans hB3)
 exact⟨⟨f0,d0,⟨F0,L4.b3 F0 fun _ _ _ _ _ _ _ _ _=>rfl,Ah X G a0⟩,f1,d1,⟨F1,L4.b2 F1 fun _ _ _ _ _ _ _ _=>rfl,Ah X G a1⟩,f2,d2,⟨F2,L4.b2 F2 fun _ _ _ _ _ _ _ _=>rfl,Ah X G a2⟩,f3,d3,⟨F3,L4.b2 F3 fun _ _ _ _ _ _ _ _=>rfl,Ah X G a3⟩,f4,d4,⟨F4,L4.b2 F4 fun _ _ _ _ _ _ _ _=>rfl,Ah X G a4⟩,f5,d5,⟨F5,L4.b2 F5 fun _ _ _ _ _ _ _ _=>rfl,Ah X G a5⟩,f6,d6,⟨F6,L4.b1 F6 fun _ _ _ _ _ _ _=>rfl,Ah X G a6⟩,f7,d7,⟨F7,L4.b1 F7 fun _ _ _ _ _ _ _=>rfl,Ah X G a7⟩,f8,d8,⟨F8,L4.b1 F8 fun _ _ _ _ _ _ _=>rfl,Ah X G a8⟩,f9,d9,⟨F9,L4.b3 F9 fun _ _ _ _ _ _ _ _ _=>rfl,Ah X G a9⟩,f10,d10,⟨F10,L4.b1 F10 fun _ _ _ _ _ _ _=>rfl,Ah X G a10⟩,f11,d11,⟨F11,L4.b1 F11 fun _ _ _ _ _ _ _=>rfl,Ah X G a11⟩,f12,d12,⟨F12,L4.b1 F12 fun _ _ _ _ _ _ _=>rfl,Ah X G a12⟩,f13,d13,⟨F13,L4.b1 F13 fun _ _ _ _ _ _ _=>rfl,Ah X G a13⟩,f14,d14,⟨F14,L4.b1 F14 fun _ _ _ _ _ _ _=>rfl,Ah X G a14⟩,f15,d15,⟨F15,L4.b2 F15 fun _ _ _ _ _ _ _ _=>rfl,Ah X G a15⟩,f16,d16,⟨F16,L4.b1 F16 fun _ _ _ _ _ _ _=>rfl,Ah X G a16⟩,f17,d17,⟨F17,L4.b1 F17 fun _ _ _ _ _ _ _=>rfl,Ah X G a17⟩,f18,d18,⟨F18,L4.b1 F18 fun _ _ _ _ _ _ _=>rfl,Ah X G a18⟩,f19,d19,⟨F19,L4.b1 F19 fun _ _ _ _ _ _ _=>rfl,Ah X G a19⟩,f20,d20,⟨F20,L4.b3 F20 fun _ _ _ _ _ _ _ _ _=>rfl,Ah X G a20⟩,f21,d21,⟨F21,L4.b3 F21 fun _ _ _ _ _ _ _ _ _=>rfl,Ah X G a21⟩,f22,d22,⟨F22,L4.b3 F22 fun _ _ _ _ _ _ _ _ _=>rfl,Ah X G a22⟩,f23,d23,⟨F23,L4.b1 F23 fun _ _ _ _ _ _ _=>rfl,Ah X G a23⟩,f24,d24,⟨F24,L4.b1 F24 fun _ _ _ _ _ _ _=>rfl,Ah X G a24⟩,f25,d25,⟨F25,L4.b1 F25 fun _ _ _ _ _ _ _=>rfl,Ah X G a25⟩,f26,d26,⟨F26,L4.b1 F26 fun _ _ _ _ _ _ _=>rfl,Ah X G a26⟩,C0,c0.cls,Ah X G c0.g,g0,e0,⟨M0,L4.b3 M0 fun _ _ _ _ _ _ _ _ _=>rfl⟩,⟨c0.makes,A0,I0,c0.kp⟩,c0.fld 0 _ rfl,c0.fld 1 _ rfl,E0,Ah X G h0,E1,Ah X G h1,E2,Ah X G h2,E3,Ah X G h3,E4,Ah X G h4,E5,Ah X G h5,E6,Ah X G h6,E7,Ah X G h7,E8,Ah X G h8,E9,Ah X G h9,E10,Ah X G h10,E11,Ah X G h11,⟨(x1 rfl).1,Ah X G h1⟩,(x1 rfl).2,L4.kp_at S 1 rfl h1,⟨(x2 rfl).1,Ah X G h2⟩,(x2 rfl).2,L4.kp_at S 2 rfl h2,⟨(x3 rfl).1,Ah X G h3⟩,(x3 rfl).2,L4.kp_at S 3 rfl h3,⟨(x4 rfl).1,Ah X G h4⟩,(x4 rfl).2,L4.kp_at S 4 rfl h4,⟨(x5 rfl).1,Ah X G h5⟩,(x5 rfl).2,L4.kp_at S 5 rfl h5,⟨(x6 rfl).1,Ah X G h6⟩,(x6 rfl).2,L4.kp_at S 6 rfl h6,⟨(x7 rfl).1,Ah X G h7⟩,(x7 rfl).2,L4.kp_at S 7 rfl h7,ef0,ed0,xI0,cB0,eF0,L4.b2 eF0 fun _ _ _ _ _ _ _ _=>rfl,ef1,ed1,xI1,cB1,eF1,L4.b2 eF1 fun _ _ _ _ _ _ _ _=>rfl,ef2,ed2,xI2,cB2,eF2,L4.b2 eF2 fun _ _ _ _ _ _ _ _=>rfl,ef3,ed3,xI3,cB3,eF3,L4.b2 eF3 fun _ _ _ _ _ _ _ _=>rfl,L4.tab_all S X G (by kernel_rfl),Bz X G (L4.bare_at S 0 rfl),Bz X G (L4.bare_at S 1 rfl),Bz X G (L4.bare_at S 2 rfl),Bz X G (L4.bare_at S 3 rfl),Bz X G (L4.bare_at S 4 rfl),Bz X G (L4.bare_at S 5 rfl),Bz X G (L4.bare_at S 6 rfl),Bz X G (L4.bare_at S 7 rfl),Bz X G (L4.bare_at S 8 rfl),Bz X G (L4.bare_at S 9 rfl),Bz X G (L4.bare_at S 10 rfl),Bz X G (L4.bare_at S 11 rfl),Bz X G (L4.bare_at S 12 rfl),t0,Ah X G v0,t1,Ah X G v1,t2,Ah X G v2,t3,Ah X G v3,t4,Ah X G v4,t5,Ah X G v5,c,T0,(by obtain⟨oc,od,kV,doc,pm,an,cdv,ct,osl,e,lk,_⟩:=F21.ex;exact PySem.W.law_code X G ht (Ah X G a21) (X _ _ lk) rfl)⟩,rfl,rfl⟩
def d_law:PySem.DefRec:=⟨"law",DU (zZ 50),qH (zZ 50),zC (zZ 50),⟨224,0,250,134⟩⟩
end My
open PySem PySem.W PyProof.Rows
set_option maxRecDepth 100000 in
set_option maxHeartbeats 0 in
theorem PySem.Challenge.cw_dueyard_k06_refused_turns_and_calendars_holds : PySem.Challenge.rw_dueyard_k06_refused_turns_and_calendars.Holds := by
 w_on;o_law
 refine PySem.W.holds_open (q:=L4.lawView My.ask PySem.Challenge.pw_dueyard_k06_refused_turns_and_calendars) (loose:=L4.looseOf PySem.Challenge.pw_dueyard_k06_refused_turns_and_calendars) (Xt:=fun _=>true) (XP:=fun _ _=>True) (YP:=fun _ h=>L4.YT My.ask PySem.Challenge.pw_dueyard_k06_refused_turns_and_calendars My.y0 h) (d:=My.d_law) (kwd:=[]) (N:=20000) (L4.left_one (good:=(L4.good PySem.Challenge.pw_dueyard_k06_refused_turns_and_calendars My.ask,true)) (by kernel_rfl) (by decide) (fun _=>rfl) My.one) (fun w s e=>L4.seenT_ok w s e) (fun w h h'=>L4.seenT_keeps w h h') (fun _ _=>trivial) (fun _ _ _ _ _=>trivial) (by kernel_rfl) (by kernel_rfl) rfl (fun _ _=>recFacts_nil rfl) rfl (by assumption) (by decide+kernel) ⟨rfl,rfl,rfl,rfl,rfl,by decide+kernel⟩ ?hw ?hc
 case hw=>w_witness2
 case hc=>
  refine L4.walk_oneT (y:=My.y0) (l:=PySem.Challenge.rw_dueyard_k06_refused_turns_and_calendars) (n:=63) (k:=11) (x:="_law_script") (CX:=fun w=>L2.XT PySem.Challenge.rw_dueyard_k06_refused_turns_and_calendars.prog w) (sp:=L3.spLT) rfl (by decide) rfl ⟨rfl,by decide,by decide⟩ ?F (fun _ _ _ a ns hl hO hS=>⟨a,ns,rfl,hl,hS,hO,fun _=>rfl⟩) fun _ _ _ _ _ z=>L3.noX z
  intro w mg fa c T0 h K KX G S ht hm hmg;obtain⟨T,ec,eT⟩:=My.txt KX G S ht;subst ec;subst eT;have e:=hmg.symm.trans T.d_law.g;cases e;exact⟨T.fd_law,L4.binds_law T.d_law.F fun _ _ _ _ _ _ _=>rfl,fun base _ _ hC hB=>(My.G_law (P:=PySem.Challenge.rw_dueyard_k06_refused_turns_and_calendars.prog) (w:=w) (base:=base) T hC hB hm).imp (sp':=L3.spLT K T.ttb) fun vs H Q E h=>L3.spLT_of (κ:=My.kx T) My.law_true h⟩
