import PyProof.Rows.All
import Wide.All
import OpenK.AllK
import Wide.FinOn
import Lean
import PyProof.EqAt
import PyProof.EqKinds
import PyProof.TupleCall
import KE.KSortTup
import KE.KUnpack
import PyProof.ExcBaseAll.ValueError
import PyProof.Rows.Catch
import PyProof.NsDelKeeps
import KE.KTryMore
import KE.KIsAll
import PyProof.ExcArgsOwn
import PyProof.DictRoadsH
import PyProof.EnumFor
import PyProof.EnumStmt
import PyProof.EnumMake
import PyProof.MaxThree
import KE.KDictList
import PyProof.NeKinds
import KE.KxText
import PyProof.WalkInts
import PyProof.SeqI3
import KE.KRevIter
import PyProof.DictIter
import PyProof.DictWalks
import KE.KIntText
import PyProof.TupleOfSeq
import PyProof.Rows.Range3
import PyProof.ListStr
import PyProof.Draws
import PyProof.StrOps2
import PyProof.ZipIter
import PyProof.Calls
import PyProof.FitsReplace
import PyProof.StrLawsChain
import PySem.Challenge.RW_dueyard_k82_texts_refused
abbrev VP:=PySem.Value->PySem.Shared->Prop
abbrev AL:=List (PySem.Addr×PySem.Obj)
abbrev AO:=List (Option PySem.Addr)
abbrev FG:=PySem.W.Frag
set_option linter.all false
def Aa:=@if_pos
def Ab:=@if_neg
def Ac:=@PySem.wpAny_bind
def Ad:=@PySem.Heap.lt_size
def Ae:=@List.mem_cons
def Af:=@Nat.le_refl
def Ag:=@PySem.wpAny_pure
def Ah:=@List.length_map
def Ai:=@PySem.W.mg_of
def Aj:=@decide_eq_false
def Ak:=@List.size_toArray
def Al:=@List.mem_of_getElem?
def Am:=@List.length_append
def An:=@List.mem_cons_self
def Ao:=@Bool.false_ne_true
def Ap:=@Nat.ne_of_lt
def Aq:=@PySem.Heap.get?_push_of_some
def Ar:=@Nat.lt_of_lt_of_le
def As:=@List.getElem?_eq_some_iff
def Au:=@List.mem_append_right
def Av:=@List.mem_cons_of_mem
def Aw:=@PySem.wpAny_mono
def Ax:=@List.map_cons
def Ay:=@List.mem_singleton
def Az:=@or_false
def A0:=@List.mem_append
def A1:=@PySem.Heap.get?_push_size
def A2:=@List.getElem?_map
def A4:=@List.length_set
def A5:=@Option.map_some
def A6:=@PySem.boot_len
def A7:=@List.not_mem_nil
def A8:=@List.getElem?_append_left
def A9:=@List.length_cons
def Bb:=@if_true
def Bc:=@Nat.le_trans
def Be:=@Bool.and_eq_true
def Bf:=@PySem.wpAny_field
def Bg:=@decide_eq_true
def Bh:=@PySem.W.mg_none_of
def Bi:=@Nat.lt_irrefl
def Bj:=@PySem.W.kia_one
def Bk:=@Nat.zero_le
def Bl:=@Ne.symm
def Bm:=@PySem.wpAny_holding
def Bn:=@List.nodup_cons
def Bo:=@if_false
def Bp:=@List.getElem?_append_right
def Bq:=@List.map_nil
def Br:=@List.lookup_cons
def Bt:=@beq_iff_eq
def Bu:=@List.getElem?_set
def Bv:=@PyProof.Rows.boot_int
def Bw:=@PyProof.Rows.boot_str
def Bx:=@PySem.W.hideAll_none
def By:=@PySem.wpAny_truthy_bool
def Bz:=@Array.length_toList
def B0:=@Nat.ne_of_gt
def B1:=@List.append_nil
def B2:=@List.length_take
def B3:=@PySem.mem_of_lookup
def B4:=@List.drop_length
def B5:=@List.map_append
def B6:=@List.mem_range
def B7:=@List.length_replicate
def B8:=@List.all_eq_true
def B9:=@decide_eq_true_eq
def Ca:=@Bool.and_false
def Cb:=@Int.eq_ofNat_of_zero_le
def Cc:=@List.map_map
def Cd:=@PySem.wpAny_standAt
def Ce:=@List.mem_filterMap
def Cf:=@List.length_drop
def Cg:=@List.replicate_succ
def Ci:=@PySem.call_meets
def Cj:=@List.getD_eq_getElem?_getD
def Ck:=@PySem.F.slot_list_append
def Cm:=@PySem.F.type_list_append
def Cn:=@List.length_nil
def Co:=@PySem.wpAny_newObj_type
def Cp:=@List.flatten_cons
def Cq:=@List.nil_append
def Cr:=@Bool.false_eq_true
def Cs:=@Option.some.injEq
def Ct:=@List.drop_eq_getElem_cons
def Cu:=@List.getElem?_range
def Cv:=@PySem.wpAny_setField_rec
def Cw:=@PySem.W.of_hideAll
def Cy:=@List.mem_append_left
def Cz:=@List.getElem?_set_ne
def C0:=@PyProof.Rows.callWith_type1
def C1:=@PySem.wpAny_passesOwn
def C2:=@PySem.codeAny_mono
def C4:=@List.of_mem_zip
def C5:=@Bool.or_false
def C6:=@List.getElem?_of_mem
def C7:=@Array.getElem?_toList
def C8:=@Nat.lt_or_ge
def C9:=@PySem.wpAny_seqItems
def Da:=@PyProof.Rows.boot_isinstance
def Dc:=@List.mem_map
def Dd:=@PySem.W.hideAll_get
def De:=@List.filterMap_cons
def Df:=@List.getElem?_set_self
def Dg:=@Bool.false_and
def Dh:=@PySem.wpAny_pyIter_list
def Di:=@PySem.wpAny_Call_Name_kw
def Dj:=@beq_self_eq_true
def Dk:=@PySem.W.funFrames_hide
def Dl:=@PySem.wpAny_loadPart_at
def Dm:=@List.eq_nil_of_length_eq_zero
def Dn:=@List.getElem?_cons_zero
def Do:=@Option.bind_some
def Dp:=@List.getElem?_cons_succ
def Dq:=@List.length_range
def Dr:=@PySem.F.slot_zip_next
def Ds:=@PySem.Heap.size_push
def Dt:=@List.set_cons_zero
def Du:=@List.set_cons_succ
def Dv:=@List.drop_zero
def Dw:=@Int.toNat_natCast
def Dx:=@List.getElem?_replicate
def Dy:=@PySem.wpAny_callSpecial?_slot
def Dz:=@PyProof.Rows.slot_tuple_getitem
def D0:=@PySem.Heap.get?_update_other
def D1:=@PySem.F.typeOf_object_class
def D4:=@PySem.W.looks_findIn
def D5:=@Option.map_eq_some_iff
def D6:=@PySem.F.plainAttrs_str
universe u
noncomputable section
def yq {α:Type u} {l:List α} {i:Nat} (h:i<l.length):l[i]?=some l[i]:=List.getElem?_eq_getElem h
def zc {a b:Prop} (h:a) (k:b):a/\b:=⟨h,k⟩
set_option Elab.async false
set_option compiler.extract_closed false
set_option bootstrap.genMatcherCode false
set_option genSizeOfSpec false
set_option genSizeOf false
local macro_rules | `(tactic|lia)=>`(tactic|first|assumption|lia (splits:=9)|omega)
set_option linter.all false
set_option maxRecDepth 100000
namespace L2
open PySem PySem.Spec PyProof.Rows
abbrev yY:=Sum Int Str
def Ij:yY->Value->Bool
 |.inl k,v=>Value.isInt k v
 |.inr x,v=>Value.isStrOf x v
def keyH (w:World):yY->Int
 |.inl k=>hashInt k
 |.inr x=>hashStr w x
def AK:∀{k:yY} {v:Value},Ij k v=true->(∃i t,k=Sum.inl i/\v=Value.int i t)\/(∃x t,k=Sum.inr x/\v=Value.str x t)
 |.inl i,v,h=>by
  obtain⟨t,e⟩:=Value.isInt_shape (k:=i) (v:=v) h;exact .inl ⟨i,t,rfl,e⟩
 |.inr x,v,h=>by
  obtain⟨t,e⟩:=Value.isStrOf_shape (x:=x) (v:=v) h;exact .inr ⟨x,t,rfl,e⟩
def KU (a b:Int):decide ((Sum.inl a:yY)=Sum.inl b)=(a==b):=by
 by_cases e:a=b
 .subst e;simp
 .have h: ¬(Sum.inl a:yY)=Sum.inl b:=fun q=>e (Sum.inl.inj q)
  rw[Aj h];exact (beq_eq_false_iff_ne.mpr e).symm
def KW (a b:Str):decide ((Sum.inr a:yY)=Sum.inr b)=decide (a=b):=by
 by_cases e:a=b
 .subst e;simp
 .have h: ¬(Sum.inr a:yY)=Sum.inr b:=fun q=>e (Sum.inr.inj q)
  rw[Aj h,Aj e]
def KY (a:Int) (b:Str):decide ((Sum.inl a:yY)=Sum.inr b)=false:=Aj (fun q=>nomatch q)
def KZ (a:Str) (b:Int):decide ((Sum.inr a:yY)=Sum.inl b)=false:=Aj (fun q=>nomatch q)
def GC (prog:Program) (w:World):PySem.KeyKind prog w yY where
 is:=Ij
 hash:=keyH w
 inj:=fun v a b ha hb=>by
  rcases AK ha with ⟨i,t,rfl,rfl⟩|⟨x,t,rfl,rfl⟩
  .rcases AK hb with ⟨j,u,rfl,e⟩|⟨y,u,rfl,e⟩
   .injection e with e1 _;rw[e1]
   .exact nomatch e
  .rcases AK hb with ⟨j,u,rfl,e⟩|⟨y,u,rfl,e⟩
   .exact nomatch e
   .injection e with e1 _;rw[e1]
 byValue:=fun k v h=>by
  rcases AK h with ⟨i,t,rfl,rfl⟩|⟨x,t,rfl,rfl⟩<;>rfl
 pyHash:=fun hv h=>by
  rcases AK hv with ⟨i,t,rfl,rfl⟩|⟨x,t,rfl,rfl⟩
  .exact wpAny_pyHash_int h
  .exact wpAny_pyHash_str h
 eqBool:=fun hu hv h=>by
  rcases AK hu with ⟨i,t,rfl,rfl⟩|⟨x,t,rfl,rfl⟩
  .rcases AK hv with ⟨j,u,rfl,rfl⟩|⟨y,u,rfl,rfl⟩
   .rw[KU]at h;exact wpAny_eqBool_int h
   .rw[KY]at h;exact SeqAt.EqAt.int_str i t y u _ _ _ _ h
  .rcases AK hv with ⟨j,u,rfl,rfl⟩|⟨y,u,rfl,rfl⟩
   .rw[KZ]at h;exact SeqAt.EqAt.str_int x t j u _ _ _ _ h
   .rw[KW]at h;exact wpAny_eqBool_str h
 «strs» :=fun k x t v h=>by
  rcases AK h with ⟨i,u,rfl,e⟩|⟨y,u,rfl,e⟩
  .exact nomatch e
  .injection e with e1 _
   subst e1;cases v<;>rfl
inductive V where
 |non|bl (b:Bool)|int (i:Int)|str (x:Str)|byt (b:Array UInt8)|flt (b:UInt64)|ref (a:Addr)|ty (n:String)
 deriving DecidableEq
def RelV:V->Value->Prop
 |.non,u=>u=Value.none
 |.bl b,u=>u=Value.bool b
 |.int i,u=> ∃t,u=Value.int i t
 |.str x,u=> ∃t,u=Value.str x t
 |.byt b,u=> ∃t,u=Value.bytes b t
 |.flt b,u=> ∃t,u=Value.float b t
 |.ref a,u=>u=Value.ref a
 |.ty n,u=>u=Value.type n
abbrev Vals:List V->List Value->Prop:=Paired RelV
theorem Vals.length {xs:List V} {us:List Value} (r:Vals xs us):xs.length=us.length:=Paired.length r
theorem Vals.get:∀{xs:List V} {us:List Value} {i:Nat} {x:V},Vals xs us->xs[i]? =some x->∃u,us[i]? =some u/\RelV x u
 |_,_,_,_,.nil,e=>by simp at e
 |_,_,0,_,.cons r _,e=>by simp at e;subst e;exact⟨_,rfl,r⟩
 |_,_,i+1,x,.cons _ t,e=>by
  obtain⟨u,h1,h2⟩:=Vals.get (i:=i) (x:=x) t (by simpa using e)
  exact⟨u,by simpa using h1,h2⟩
theorem Vals.set {x:V} {u:Value} (r:RelV x u):∀{xs:List V} {us:List Value} (i:Nat),Vals xs us->Vals (xs.set i x) (us.set i u)
 |_,_,_,.nil=>.nil
 |_,_,0,.cons _ t=>.cons r t
 |_,_,i+1,.cons q t=>.cons q (Vals.set r i t)
theorem Vals.append:∀{xs ys:List V} {us ws:List Value},Vals xs us->Vals ys ws->Vals (xs++ys) (us++ws)
 |_,_,_,_,.nil,s=>s
 |_,_,_,_,.cons r t,s=>.cons r (Vals.append t s)
theorem Vals.take:∀{xs:List V} {us:List Value} (n:Nat),Vals xs us->Vals (xs.take n) (us.take n)
 |_,_,0,_=>.nil
 |_,_,_+1,.nil=>.nil
 |_,_,n+1,.cons r t=>.cons r (Vals.take n t)
theorem Vals.drop:∀{xs:List V} {us:List Value} (n:Nat),Vals xs us->Vals (xs.drop n) (us.drop n)
 |_,_,0,r=>r
 |_,_,_+1,.nil=>.nil
 |_,_,n+1,.cons _ t=>Vals.drop n t
def RelO:Option V->Option Value->Prop
 |some v,some u=>RelV v u
 |none,none=>True
 |_,_=>False
def KV {κ:Type}:List (κ×V)->List (κ×Value)->Prop:=Paired fun (p:κ×V) (q:κ×Value)=>p.1=q.1/\RelV p.2 q.2
def kV:yY->V
 |.inl i=>.int i
 |.inr x=>.str x
inductive MK where
 |one (k:yY)
 |tup (ks:List yY)
 deriving DecidableEq
def MK.hash (P:Program) (w:World):MK->Int
 |.one k=>(GC P w).hash k
 |.tup ks=>tupleKeyHash (GC P w) ks
def entM (P:Program) (w:World) (x:MK×Value×Value):DictEntry:=⟨x.1.hash P w,x.2.1,x.2.2⟩
inductive HO where
 |lst (xs:List V)
 |tup (xs:List V)
 |dK (kvs:List (yY×V))|dT (kvs:List (MK×V))
 |set (S:Int->Bool) (n:Nat)
 |ins (C dx:Addr) (fs:List (Str×V))
 |own (x:Addr)
 |xd (fs:List (Str×V))
 |met (f x:Addr)
 |rng (lo hi:Int)
 |frz (o:Obj) (u:HO)
 |tbl (ps:Array Value)
 |ext (φ:Heap->Prop)
abbrev Hp:=Addr->Option HO
def KyV (H:Hp):MK->Value->Prop
 |.one k,u=>RelV (kV k) u
 |.tup ks,u=> ∃b,u=.ref b/\H b=some (.tup (ks.map kV))
def KyV.mono {H H':Hp} (ht:∀b xs,H b=some (.tup xs)->H' b=some (.tup xs)):∀{k:MK} {u:Value},KyV H k u->KyV H' k u
 |.one _,_,h=>h
 |.tup _,_,⟨b,e,q⟩=>⟨b,e,ht _ _ q⟩
def zl (H:Hp) (a:Addr) (o:HO):Hp:=fun b=>if b=a then some o else H b
def yQ {H:Hp} {a:Addr} {o:HO}:zl H a o a=some o:=by unfold zl;rw[Aa rfl]
def zI {H:Hp} {a b:Addr} {o:HO} (h:b≠a):zl H a o b=H b:=by unfold zl;rw[Ab h]
def yR {H:Hp} {a b:Addr} {o:HO} (h:H a=some o) (h':H b=none):a≠b:=by
 intro e;subst e;rw[h]at h';cases h'
section
variable (P:Program) (w:World)
def ObjOk (H:Hp) (h:Heap) (a:Addr):HO->Prop
 |.lst xs=>xs.length<=sizeLine/\∃(its:List Value) (n:Nat),Vals xs its/\h.get? a=some {cls:= .type "list",data:= .seq its.toArray n}
 |.tup xs=>xs.length<=sizeLine/\∃its:List Value,Vals xs its/\IsTup h a its.toArray
 |.dK kvs=>kvs.length<=sizeLine/\(a==sysModules)=false/\∃vs,KV kvs vs/\h.DictOf (GC P w) a vs
 |.dT kvs=>kvs.length<=sizeLine/\(a==sysModules)=false/\∃xs:List (MK×Value×Value),Paired (fun (p:MK×V) (q:MK×Value×Value)=>p.1=q.1/\KyV H p.1 q.2.1/\RelV p.2 q.2.2) kvs xs/\
  ∃o es ep,h.get? a=some o/\o.ExactDict/\o.data=.dict es ep/\es.toList=xs.map (entM P w)/\(xs.map (·.1)).Nodup/\ep=xs.length
 |.set S n=>h.SetOf (intKind P w) a S n
 |.ins C dx fs=>H dx=some (.own a)/\fs.length<=1000/\dx≠a/\h.get? a=some (PySem.W.instObj C dx)/\
  ∃mA,h.Ns1 dx mA/\(∀f,RelO (fs.lookup f) (mA f))/\PySem.Within mA (fs.map (·.1))
 |.own _=> ∃o,h.get? a=some o
 |.xd fs=> ∃mA,h.Ns1 a mA/\∀f,RelO (fs.lookup f) (mA f)
 |.rng lo hi=> ∃t u v,h.get? a=some {cls:= .type "range",data:= .fields #[.int lo t,.int hi u,.int 1 v]}
 |.frz o u=>h.get? a=some o/\ObjOk H h a u
 |.tbl ps=>h.get? a=some {cls:= .none,data:= .fields ps}
 |.met f x=>h.get? a=some (PySem.W.methodObj (.ref f) (.ref x))
 |.ext φ=>φ h/\(∃o,h.get? a=some o)/\∀h1 h2:Heap,φ h1->(∀o,h1.get? a=some o->h2.get? a=some o)->φ h2
def HOk (H:Hp) (h:Heap):Prop:=∀a o,H a=some o->ObjOk P w H h a o
end
section
variable {P:Program} {w:World} {H H':Hp} {h h':Heap} {a:Addr} {o:HO}
theorem ObjOk.lt (x:ObjOk P w H h a o):a<h.objs.size:=by
 cases o with
 |lst xs=>obtain⟨_,_,_,_,e⟩:=x;exact Ad e
 |tup xs=>obtain⟨_,_,_,p⟩:=x;exact p.lt
 |dK kvs=>obtain⟨_,_,_,_,o,_,_,e,_⟩:=x;exact Ad e
 |dT kvs=>obtain⟨_,_,_,_,o,_,_,e,_⟩:=x;exact Ad e
 |set S n=>obtain⟨o,_,_,_,e,_⟩:=x;exact Ad e
 |ins C dx fs=>obtain⟨_,_,_,e,_⟩:=x;exact Ad e
 |own y=>obtain⟨_,e⟩:=x;exact Ad e
 |xd fs=>obtain⟨_,⟨_,_,_,e,_⟩,_⟩:=x;exact Ad e
 |rng lo hi=>obtain⟨_,_,_,e⟩:=x;exact Ad e
 |frz ob u=>obtain⟨e,_⟩:=x;exact Ad e
 |tbl ps=>exact Ad (show h.get? a=some _ from x)
 |met f y=>exact Ad (show h.get? a=some _ from x)
 |ext φ=>obtain⟨_,⟨_,e⟩,_⟩:=x;exact Ad e
theorem Paired.mapP {α β:Type} {F G:α->β->Prop}:∀{l₁:List α} {l₂:List β},Paired F l₁ l₂->(∀a b,F a b->G a b)->Paired G l₁ l₂
 |_,_,.nil,_=>.nil
 |_,_,.cons r t,f=>.cons (f _ _ r) (Paired.mapP t f)
def ObjOk.stay (x:ObjOk P w H h a o) (k:∀b u,(b=a\/H b=some (.own a))->h.get? b=some u->h'.get? b=some u)
  (ho:∀b,H b=some (.own a)->H' b=some (.own a)) (ht:∀b xs,H b=some (.tup xs)->H' b=some (.tup xs)):ObjOk P w H' h' a o:=by
 induction o with
 |lst xs=>obtain⟨z,its,n,r,e⟩:=x;exact⟨z,its,n,r,k _ _ (.inl rfl) e⟩
 |tup xs=>obtain⟨z,its,r,ob,e,c⟩:=x;exact⟨z,its,r,ob,k _ _ (.inl rfl) e,c⟩
 |dK kvs=>obtain⟨z,y,vs,r,ob,es,ep,e,c⟩:=x;exact⟨z,y,vs,r,ob,es,ep,k _ _ (.inl rfl) e,c⟩
 |dT kvs=>
  obtain⟨z,y,xs,r,ob,es,ep,e,c⟩:=x;exact⟨z,y,xs,Paired.mapP r fun p q z=>⟨z.1,z.2.1.mono ht,z.2.2⟩,ob,es,ep,k _ _ (.inl rfl) e,c⟩
 |set S n=>obtain⟨ob,es,ep,t,e,c⟩:=x;exact⟨ob,es,ep,t,k _ _ (.inl rfl) e,c⟩
 |ins C dx fs=>
  obtain⟨d,z,ne,e,mA,⟨od,es,ep,e2,c⟩,r⟩:=x;exact⟨ho _ d,z,ne,k _ _ (.inl rfl) e,mA,⟨od,es,ep,k _ _ (.inr d) e2,c⟩,r⟩
 |own y=>obtain⟨ob,e⟩:=x;exact⟨ob,k _ _ (.inl rfl) e⟩
 |xd fs=>obtain⟨mA,⟨od,es,ep,e,c⟩,r⟩:=x;exact⟨mA,⟨od,es,ep,k _ _ (.inl rfl) e,c⟩,r⟩
 |rng lo hi=>obtain⟨t,u,v,e⟩:=x;exact⟨t,u,v,k _ _ (.inl rfl) e⟩
 |frz ob u ih=>obtain⟨e,q⟩:=x;exact⟨k _ _ (.inl rfl) e,ih q⟩
 |tbl ps=>
  have e:h.get? a=some {cls:= .none,data:= .fields ps}:=x;show h'.get? a=some {cls:= .none,data:= .fields ps};exact k a _ (.inl rfl) e
 |met f y=>
  have e:h.get? a=some (PySem.W.methodObj (.ref f) (.ref y)):=x;show h'.get? a=some (PySem.W.methodObj (.ref f) (.ref y));exact k a _ (.inl rfl) e
 |ext φ=>obtain⟨p,⟨o,e⟩,st⟩:=x;exact⟨st _ _ p fun o q=>k _ _ (.inl rfl) q,⟨o,k _ _ (.inl rfl) e⟩,st⟩
theorem HOk.lt (x:HOk P w H h) (e:H a=some o):a<h.objs.size:=(x a o e).lt
def HOk.fresh (x:HOk P w H h) (e:h.objs.size<=a):H a=none:=by
 cases q:H a with
 |none=>rfl
 |some u=>exact absurd (Ar (x.lt q) e) (Bi _)
def HOk.kept (x:HOk P w H h) (k:∀b u,h.get? b=some u->h'.get? b=some u):HOk P w H h':=fun a o e=>
 (x a o e).stay (fun b u _ q=>k b u q) (fun _ q=>q) fun _ _ q=>q
def HOk.laid (x:HOk P w H h) (k:∀b u,h.get? b=some u->h'.get? b=some u) (hp:h.objs.size<=a) (new:ObjOk P w (zl H a o) h' a o):HOk P w (zl H a o) h':=fun b u e=>by
 have hn:=x.fresh hp
 by_cases hb:b=a
 .subst hb;rw[yQ]at e;cases e;exact new
 .rw[zI hb]at e
  exact (x b u e).stay (fun c v _ q=>k c v q) (fun c q=>by rw[zI (yR q hn)];exact q) fun c xs q=>by rw[zI (yR q hn)];exact q
end
def Rd (H:Hp) (a:Addr) (u:HO):Prop:=H a=some u\/∃o,H a=some (.frz o u)
def Rd.ok {P:Program} {w:World} {H:Hp} {h:Heap} {a:Addr} {u:HO} (r:Rd H a u) (x:HOk P w H h):ObjOk P w H h a u:=by
 rcases r with r|⟨o,r⟩
 .exact x a u r
 .obtain⟨_,q⟩:=x a _ r
  exact q
def Mut:Option HO->Prop
 |some (.lst _)=>True
 |some (.dK _)=>True
 |some (.dT _)=>True
 |some (.set _ _)=>True
 |some (.ins _ _ _)=>True
 |some (.ext _)=>True
 |_=>False
section
variable {P:Program} {w:World} {H:Hp} {h h':Heap} {x e:Addr} {o':HO}
def HOk.write (ok:HOk P w H h) (mu:Mut (H x)) (he:e=x\/H e=some (.own x)) (k:∀b u,b≠e->h.get? b=some u->h'.get? b=some u) (heo:∃u,h'.get? e=some u)
  (new:ObjOk P w (zl H x o') h' x o'):HOk P w (zl H x o') h':=fun b u q=>by
 have nown:∀c y,H c=some (.own y)->c≠x:=fun c y r z=>by subst z;rw[r]at mu;exact mu
 have ntup:∀c xs,H c=some (.tup xs)->c≠x:=fun c xs r z=>by subst z;rw[r]at mu;exact mu
 by_cases hb:b=x
 .subst hb;rw[yQ]at q;cases q;exact new
 .rw[zI hb]at q
  by_cases hbe:b=e
  .have q':H b=some (.own x):=by
    rcases he with z|z
    .exact absurd (hbe.trans z) hb
    .rw[hbe];exact z
   rw[q]at q';cases q';obtain⟨v,hv⟩:=heo;exact⟨v,by rw[hbe];exact hv⟩
  .refine (ok b u q).stay (fun c v hc r=>k c v ?_ r) (fun c r=>by rw[zI (nown c b r)];exact r) fun c xs r=>by rw[zI (ntup c xs r)];exact r
   rcases hc with rfl|hc
   .exact hbe
   .rintro rfl
    rcases he with z|z
    .exact nown c b hc z
    .rw[hc]at z;cases z;exact hb rfl
end
structure Un (fs ex:List Addr) (H H':Hp) (h h':Heap):Prop where
 keep:∀b o,h.get? b=some o->H b=none->b∉fs->b∉ex->h'.get? b=some o
 slot:∀b o,h.get? b=some o->H b=none->b∈fs->b∉ex->∃sl,h'.get? b=some {o with slots:=sl}
 free:∀b o,h.get? b=some o->H b=none->b∉ex->H' b=none
 there:∀b o,h.get? b=some o->b∉ex->∃o',h'.get? b=some o'
 tups:∀b xs,H b=some (.tup xs)->H' b=some (.tup xs)
 frzs:∀b o u,H b=some (.frz o u)->H' b=some (.frz o u)
 tbls:∀b ps,H b=some (.tbl ps)->∃more,H' b=some (.tbl (ps++more))
section
variable {fs fs' ex ex':List Addr} {H H1 H2:Hp} {h h1 h2 h':Heap} {a x e:Addr} {o:HO}
def Un.any (u:Un fs ex H H1 h h1) {b:Addr} {ob:Obj} (q:h.get? b=some ob) (n:H b=none) (hx:b∉ex):∃sl,h1.get? b=some {ob with slots:=sl}:=by
 by_cases hb:b∈fs
 .exact u.slot b ob q n hb hx
 .exact⟨ob.slots,u.keep b ob q n hb hx⟩
def Un.kept (k:∀b u,h.get? b=some u->h'.get? b=some u):Un fs ex H H h h':=
 ⟨fun b ob q _ _ _=>k b ob q,fun b ob q _ _ _=>⟨ob.slots,k b ob q⟩,fun _ _ _ n _=>n,fun b ob q _=>⟨ob,k b ob q⟩,fun _ _ q=>q,fun _ _ _ q=>q,fun _ ps q=>⟨#[],by rw[q];simp⟩⟩
def Un.refl:Un fs ex H H h h:=Un.kept fun _ _ q=>q
def Un.laid (k:∀b u,h.get? b=some u->h'.get? b=some u) (hp:h.objs.size<=a) (hn:H a=none):Un fs ex H (zl H a o) h h' where
 keep:=fun b u q _ _ _=>k b u q
 slot:=fun b u q _ _ _=>⟨u.slots,k b u q⟩
 free:=fun b u q n _=>by rw[zI (Ap (Ar (Ad q) hp))];exact n
 there:=fun b u q _=>⟨u,k b u q⟩
 tups:=fun b xs q=>by rw[zI (yR q hn)];exact q
 frzs:=fun b u xs q=>by rw[zI (yR q hn)];exact q
 tbls:=fun b ps q=>⟨#[],by rw[zI (yR q hn),q];simp⟩
def Un.write (mu:Mut (H x)) (he:e=x\/H e=some (.own x)) (k:∀b u,b≠e->h.get? b=some u->h'.get? b=some u) (heo:∃u,h'.get? e=some u):Un fs ex H (zl H x o) h h':=by
 have hx:∀b,H b=none->b≠x:=fun b n z=>by subst z;rw[n]at mu;exact mu
 have hb:∀b,H b=none->b≠e:=fun b n z=>by
  subst z
  rcases he with r|r
  .exact hx b n r
  .rw[n]at r;cases r
 have hm:∀b u,H b=some u->¬Mut (some u)->b≠x:=fun b u q nm z=>by subst z;rw[q]at mu;exact nm mu
 refine⟨fun b u q n _ _=>k b u (hb b n) q,fun b u q n _ _=>⟨u.slots,k b u (hb b n) q⟩,fun b u q n _=>by rw[zI (hx b n)];exact n,fun b u q _=>?_,
  fun b xs q=>by rw[zI (hm b _ q fun z=>z)];exact q,fun b u xs q=>by rw[zI (hm b _ q fun z=>z)];exact q,fun b ps q=>⟨#[],by rw[zI (hm b _ q fun z=>z),q];simp⟩⟩
 by_cases hbe:b=e
 .subst hbe;exact heo
 .exact⟨u,k b u hbe q⟩
end
def trk (h:Heap) (H:Hp):List Addr:=(List.range h.objs.size).filter fun a=>(H a).isSome
def hidT (h:Heap) (H:Hp):Heap:=PySem.W.hideAll h (trk h H)
def La (h:Heap) (H:Hp):(hidT h H).objs.size=h.objs.size:=PySem.W.hideAll_size _ _
def Lb {h:Heap} {H:Hp} {b:Addr} {o:Obj} (e:h.get? b=some o) (n:H b=none):(hidT h H).get? b=some o:=
 Dd _ e fun hm=>by
  have q:(H b).isSome=true:=(List.mem_filter.mp hm).2;rw[n]at q;simp at q
def Lc {h:Heap} {H:Hp} {b:Addr} {o:Obj} (e:(hidT h H).get? b=some o):h.get? b=some o/\H b=none:=by
 have e':h.get? b=some o:=Cw (trk h H) e
 refine⟨e',?_⟩
 cases q:H b with
 |none=>rfl
 |some x=>
  have hm:b∈trk h H:=List.mem_filter.mpr ⟨B6.mpr (Ad e'),by simp[q]⟩
  have z:(hidT h H).get? b=none:=Bx (trk h H) hm;rw[z]at e;cases e
structure Mod (K:FG) (mg:Str->Option Value) (base:Heap):Prop where
 kin:K.In base
 glob:base.Ns mainGlobals mg
 blt:∃mb,base.Ns builtinsNs mb/\∀x:Str,x≠"__name__" ->mb x=bootBuiltins x
 nolimit:base.NoLimit
structure Cx where
 prog:Program
 w:World
 K:FG
 mg:Str->Option Value
 base:Heap
 A:Around
 N:List Str
 s₀:Shared
 H₀:Hp
 env:Env
 outer:List Env
 stack:List Env
 ex:List Addr
 fn:Str->Bool
 calm:Bool
 pn:AL
 xe:VP
abbrev SE (X:Cx) (e:Expr) (es:List Expr):Prop:=starEach (e::es) X.env=(false,eval e X.env)::starEach es X.env
abbrev BA (X:Cx) (pos:Pos) (es:List Expr):Prop:=(backTo pos (starEach es X.env)).any (·.1)=false
def zS (l:List Env):List Addr:=l.filterMap (·.frame)
abbrev Cx.fs (X:Cx):List Addr:=zS X.outer
def Vis (sc:Scope) (x:Str):Prop:=sc.names.lookup x=some .local\/sc.names.lookup x=some .cell\/sc.names.lookup x=some .free
def jq (sc:Scope) (x:Str):Prop:=sc.names.lookup x=some .local\/sc.names.lookup x=some .cell
def Look (env:Env) (h:Heap) (m:Str->Option Value) (x:Str) (u:Value):Prop:=
 (env.kindOf x=some .local/\m x=some u)\/((env.kindOf x=some .cell\/env.kindOf x=some .free)/\∃c,env.cells.lookup x=some c/\h.IsCell c (some u))
structure Cx.Ok (X:Cx):Prop where
 mod:Mod X.K X.mg X.base
 kind:X.env.scope.kind=.function
 glob:X.env.globals=mainGlobals
 blt:X.env.builtins=builtinsNs
 above:X.s₀.heap.objs.size<=X.env.locals
 inj:∀x y c,X.env.cells.lookup x=some c->X.env.cells.lookup y=some c->x=y
 has:∀x,(X.env.kindOf x=some .cell\/X.env.kindOf x=some .free)->∃c,X.env.cells.lookup x=some c
 cab:∀x c,X.fn x=true->X.env.cells.lookup x=some c->X.s₀.heap.objs.size<=c
 hd:X.calm=true->X.A.handled=none
 frames:X.A.frames=some X.stack
 stk:X.stack=X.outer\/(X.stack=X.env::X.outer/\X.env.frame=some X.env.locals)
 exf:∀b∈X.ex,b≠X.env.locals/\∀x c,X.env.cells.lookup x=some c->c≠b
 bs:∀b o,X.base.get? b=some o->X.s₀.heap.get? b=some o/\X.H₀ b=none
 bsz:X.base.objs.size<=X.s₀.heap.objs.size
 noex:∀b o,X.base.get? b=some o->b∉X.ex
 exfs:∀b∈X.ex,b∉X.fs
 funs:X.s₀.heap.FunFrames X.base X.outer
 frf:∀b∈X.fs,X.H₀ b=none
structure Inv (X:Cx) (pins:AL) (σ:List (Option V)) (H:Hp) (s:Shared):Prop where
 ok:X.Ok
 os:s.os=X.s₀.os
 bare:AllBare s.gens
 base:Un X.fs X.ex X.H₀ H X.s₀.heap s.heap
 loc:∃m,s.heap.Ns X.env.locals m/\∀(i:Nat) (x:Str) (v:V),X.N[i]? =some x->σ[i]? =some (some v)->Vis X.env.scope x->∃u,RelV v u/\Look X.env s.heap m x u
 cell:∀x c,X.env.cells.lookup x=some c->∃v,s.heap.IsCell c v
 free:H X.env.locals=none
 freeC:∀x c,X.env.cells.lookup x=some c->H c=none
 pin:∀p∈X.pn++pins,s.heap.get? p.1=some p.2/\H p.1=none/\p.1≠X.env.locals/\p.1∉X.fs/\∀v,p.2.data≠ .cell v
 hok:HOk X.prog X.w H s.heap
 len:σ.length=X.N.length
section
variable {X:Cx} {pins:AL} {σ:List (Option V)} {H H':Hp} {s:Shared} {h':Heap}
def Cx.Ok.nofr (ok:X.Ok) {b:Addr} {o:Obj} (e:X.base.get? b=some o):b∉X.fs:=fun hb=>by
 have:=(ok.funs.mem hb).1;rw[e]at this;cases this
theorem Inv.bs (I:Inv X pins σ H s):∀b o,X.base.get? b=some o->s.heap.get? b=some o/\H b=none:=fun b o e=>
 ⟨I.base.keep b o (I.ok.bs b o e).1 (I.ok.bs b o e).2 (I.ok.nofr e) (I.ok.noex b o e),I.base.free b o (I.ok.bs b o e).1 (I.ok.bs b o e).2 (I.ok.noex b o e)⟩
def Inv.bk (I:Inv X pins σ H s):∀b o,X.base.get? b=some o->s.heap.get? b=some o:=fun b o e=>(I.bs b o e).1
theorem Inv.mod (I:Inv X pins σ H s):Mod X.K X.mg X.base:=I.ok.mod
def Inv.kIn (I:Inv X pins σ H s):X.K.In s.heap:=I.ok.mod.kin.keeps I.bk
theorem Inv.lt (I:Inv X pins σ H s):X.env.locals<s.heap.objs.size:=let ⟨_,hn,_⟩:=I.loc;hn.lt
def Inv.sz (I:Inv X pins σ H s):X.s₀.heap.objs.size<=s.heap.objs.size:=Bc I.ok.above (Nat.le_of_lt I.lt)
def Inv.nofs (I:Inv X pins σ H s) {a:Addr} (h:s.heap.objs.size<=a):a∉X.fs:=fun hb=>by
 obtain⟨_,o,ho,_⟩:=I.ok.funs.mem hb;exact absurd (Ar (Ad ho) (Bc I.sz h)) (Bi _)
def Inv.cne (I:Inv X pins σ H s):∀x c,X.env.cells.lookup x=some c->c≠X.env.locals:=fun x c e z=>by
 obtain⟨v,o,ho,hd⟩:=I.cell x c e;obtain⟨m,⟨o',es,ep,ho',hd',_⟩,_⟩:=I.loc;rw[z,ho']at ho;cases ho;rw[hd']at hd;cases hd
theorem Inv.funs (I:Inv X pins σ H s):s.heap.FunFrames X.base X.outer:=by
 have all:∀(l:List Env),(∀b∈zS l,b∈X.fs)->X.s₀.heap.FunFrames X.base l->s.heap.FunFrames X.base l:=by
  intro l
  induction l with
  |nil=>intro _ _;trivial
  |cons env r ih=>
   intro hs hl;obtain⟨hk,⟨L,o,hf,hn,ho,hd⟩,hr⟩:=hl;have hL:L∈X.fs:=hs L (by unfold zS;rw[De,hf];exact An)
   obtain⟨sl,e⟩:=I.base.slot L o ho (I.ok.frf L hL) hL fun z=>I.ok.exfs L z hL
   exact⟨hk,⟨L,_,hf,hn,e,hd⟩,ih (fun b hb=>hs b (by unfold zS;rw[De,hf];exact Av _ hb)) hr⟩
 exact all X.outer (fun _ hb=>hb) I.ok.funs
theorem Inv.stack (I:Inv X pins σ H s):s.heap.FunFrames X.base X.stack:=by
 rcases I.ok.stk with e|⟨e,hf⟩
 .rw[e];exact I.funs
 .rw[e]
  obtain⟨m,hn,_⟩:=I.loc
  refine .cons (by rw[I.ok.kind];decide) hf hn ?_ I.funs
  exact Heap.get?_none_of_le (Bc I.ok.bsz I.ok.above)
def Inv.stkSub (I:Inv X pins σ H s):∀b∈zS X.stack,b∈X.env.locals::X.fs:=fun b hb=>by
 rcases I.ok.stk with e|⟨e,hf⟩
 .rw[e]at hb;exact Av _ hb
 .rw[e]at hb
  unfold zS at hb;rw[De,hf]at hb;exact hb
def Inv.stkFree (I:Inv X pins σ H s):∀b∈zS X.stack,H b=none:=fun b hb=>by
 rcases Ae.mp (I.stkSub b hb) with e|hb
 .rw[e];exact I.free
 .obtain⟨_,o,ho,_⟩:=I.ok.funs.mem hb
  exact I.base.free b o ho (I.ok.frf b hb) fun z=>I.ok.exfs b z hb
def Inv.step {g':Array GenState} {t':Nat} {d':Drawn} {ch:List Addr} (I:Inv X pins σ H s)
  (hch:∀b∈ch,(b∈X.ex\/X.s₀.heap.objs.size<=b)/\b≠X.env.locals/\(∀x c,X.env.cells.lookup x=some c->c≠b)/\∀p∈X.pn++pins,p.1≠b)
  (keep:∀b o,b≠X.env.locals->b∉X.fs->b∉ch->s.heap.get? b=some o->H b=none->h'.get? b=some o)
  (slot:∀b o,b≠X.env.locals->b∈X.fs->b∉ch->s.heap.get? b=some o->H b=none->∃sl,h'.get? b=some {o with slots:=sl}) (free:∀b o,b∉ch->s.heap.get? b=some o->H b=none->H' b=none)
  (there:∀b o,b∉ch->s.heap.get? b=some o->∃o',h'.get? b=some o')
  (tups:∀b xs,H b=some (.tup xs)->H' b=some (.tup xs)) (frzs:∀b o u,H b=some (.frz o u)->H' b=some (.frz o u)) (tbls:∀b ps,H b=some (.tbl ps)->∃more,H' b=some (.tbl (ps++more)))
  (ns:∀m,s.heap.Ns X.env.locals m->h'.Ns X.env.locals m) (hok:HOk X.prog X.w H' h') (hg:AllBare g'):
  Inv X pins σ H' {s with heap:=h',gens:=g',drawn:=d',toks:=t'}:=by
 have neL:∀b o,X.s₀.heap.get? b=some o->b≠X.env.locals:=fun b o e=>Ap (Ar (Ad e) I.ok.above)
 have neC:∀b o,X.s₀.heap.get? b=some o->b∉X.ex->b∉ch:=fun b o e hx hb=>by
  rcases (hch b hb).1 with z|z
  .exact hx z
  .exact absurd (Ar (Ad e) z) (Bi _)
 have cellK:∀x c,X.env.cells.lookup x=some c->∀v,s.heap.IsCell c v->h'.IsCell c v:=fun x c e v ⟨o,ho,hd⟩=>by
  have nch:c∉ch:=fun z=>(hch c z).2.2.1 x c e rfl
  by_cases hc:c∈X.fs
  .obtain⟨sl,q⟩:=slot c o (I.cne x c e) hc nch ho (I.freeC x c e)
   exact⟨_,q,hd⟩
  .exact⟨o,keep c o (I.cne x c e) hc nch ho (I.freeC x c e),hd⟩
 refine⟨I.ok,I.os,hg,⟨fun b o e n hb hx=>?_,fun b o e n hb hx=>?_,fun b o e n hx=>?_,fun b o e hx=>?_,fun b xs e=>tups b xs (I.base.tups b xs e),fun b o xs e=>frzs b o xs (I.base.frzs b o xs e),fun b ps e=>?_⟩,?_,fun x c e=>?_,?_,fun x c e=>?_,fun p hp=>?_,hok,I.len⟩
 .exact keep b o (neL b o e) hb (neC b o e hx) (I.base.keep b o e n hb hx) (I.base.free b o e n hx)
 .obtain⟨sl,e1⟩:=I.base.slot b o e n hb hx
  obtain⟨sl',e2⟩:=slot b _ (neL b o e) hb (neC b o e hx) e1 (I.base.free b o e n hx);exact⟨sl',e2⟩
 .obtain⟨o',e1⟩:=I.base.there b o e hx
  exact free b o' (neC b o e hx) e1 (I.base.free b o e n hx)
 .obtain⟨o',e1⟩:=I.base.there b o e hx
  exact there b o' (neC b o e hx) e1
 .obtain⟨m1,e1⟩:=I.base.tbls b ps e
  obtain⟨m2,e2⟩:=tbls b _ e1;exact⟨m1++m2,by rw[e2,Array.append_assoc]⟩
 .obtain⟨m,hn,hl⟩:=I.loc
  refine⟨m,ns m hn,fun i x v e1 e2 e3=>?_⟩
  obtain⟨u,r,l⟩:=hl i x v e1 e2 e3
  refine⟨u,r,?_⟩
  rcases l with l|⟨k,c,e,z⟩
  .exact .inl l
  .exact .inr ⟨k,c,e,cellK x c e _ z⟩
 .obtain⟨v,z⟩:=I.cell x c e
  exact⟨v,cellK x c e v z⟩
 .obtain⟨m,⟨o,_,_,ho,_⟩,_⟩:=I.loc
  exact free _ o (fun z=>(hch _ z).2.1 rfl) ho I.free
 .obtain⟨v,o,ho,hd⟩:=I.cell x c e
  exact free c o (fun z=>(hch c z).2.2.1 x c e rfl) ho (I.freeC x c e)
 .obtain⟨e,n,ne,nf,d⟩:=I.pin p hp
  have nch:p.1∉ch:=fun z=>(hch p.1 z).2.2.2 p hp rfl
  exact⟨keep p.1 p.2 ne nf nch e n,free p.1 p.2 nch e n,ne,nf,d⟩
def Inv.un {t':Nat} (I:Inv X pins σ H s) (u:Un X.fs [] H H' s.heap h') (hok:HOk X.prog X.w H' h'):Inv X pins σ H' {s with heap:=h',toks:=t'}:=by
 obtain⟨m,⟨o,es,ep,ho,r⟩,_⟩:=id I.loc;obtain⟨sl,hL⟩:=u.any ho I.free (by simp)
 exact I.step (g':=s.gens) (d':=s.drawn) (ch:=[]) (fun _ z=>nomatch z) (fun b o _ hb _ e n=>u.keep b o e n hb (by simp)) (fun b o _ hb _ e n=>u.slot b o e n hb (by simp)) (fun b o _ e n=>u.free b o e n (by simp)) (fun b o _ e=>u.there b o e (by simp)) u.tups u.frzs u.tbls (fun m' hm=>by
  obtain⟨o',es',ep',ho',r'⟩:=hm;rw[ho]at ho';cases ho';exact⟨_,es',ep',hL,r'⟩) hok I.bare
def Inv.call {g':Array GenState} {t':Nat} {d':Drawn} {ch:List Addr} (I:Inv X pins σ H s) (u:Un (zS X.stack) ch H H' s.heap h') (hok:HOk X.prog X.w H' h') (hg:AllBare g')
  (hch:∀b∈ch,(b∈X.ex\/X.s₀.heap.objs.size<=b)/\b≠X.env.locals/\(∀x c,X.env.cells.lookup x=some c->c≠b)/\∀p∈X.pn++pins,p.1≠b):
  Inv X pins σ H' {s with heap:=h',gens:=g',drawn:=d',toks:=t'}:=by
 obtain⟨m,⟨o,es,ep,ho,r⟩,_⟩:=id I.loc;obtain⟨sl,hL⟩:=u.any ho I.free fun z=>(hch _ z).2.1 rfl
 exact I.step (ch:=ch) hch (fun b o hL hb hc e n=>u.keep b o e n (fun z=>(Ae.mp (I.stkSub b z)).elim hL hb) hc) (fun b o _ _ hc e n=>u.any e n hc) (fun b o hc e n=>u.free b o e n hc) (fun b o hc e=>u.there b o e hc) u.tups u.frzs u.tbls (fun m' hm=>by
  obtain⟨o',es',ep',ho',r'⟩:=hm;rw[ho]at ho';cases ho';exact⟨_,es',ep',hL,r'⟩) hok hg
def Inv.turned {t':Nat} {it:Addr} (I:Inv X pins σ H s) (k:∀b o,b≠it->s.heap.get? b=some o->h'.get? b=some o) (hn:H it=none) (hL:it≠X.env.locals)
  (h1:it∈X.ex\/X.s₀.heap.objs.size<=it) (h2:∀x c,X.env.cells.lookup x=some c->c≠it) (h3:∀p∈X.pn++pins,p.1≠it):Inv X pins σ H {s with heap:=h',toks:=t'}:=by
 have nit:∀b u,H b=some u->b≠it:=fun b u e z=>by rw[z,hn]at e;cases e
 refine I.step (g':=s.gens) (d':=s.drawn) (ch:=[it]) (fun b hb=>?_) (fun b o _ _ hc e _=>k b o (fun z=>hc (by simp[z])) e) (fun b o _ _ hc e _=>⟨o.slots,k b o (fun z=>hc (by simp[z])) e⟩) (fun _ _ _ _ n=>n)
  (fun b o hc e=>⟨o,k b o (fun z=>hc (by simp[z])) e⟩) (fun _ _ e=>e) (fun _ _ _ e=>e) (fun b ps e=>⟨#[],by rw[e];simp⟩) (fun m hm=>?_) (fun b u e=>?_) I.bare
 .have e:b=it:=by simpa using hb
  subst e;exact⟨h1,hL,h2,h3⟩
 .obtain⟨o,es,ep,ho,r⟩:=hm
  exact⟨o,es,ep,k _ o (Bl hL) ho,r⟩
 .refine (I.hok b u e).stay (fun c v hc q=>k c v ?_ q) (fun _ q=>q) fun _ _ q=>q
  rcases hc with z|z
  .rw[z];exact nit b u e
  .exact nit c _ z
def Inv.tok (I:Inv X pins σ H s) (t:Nat):Inv X pins σ H {s with toks:=t}:=I.un (h':=s.heap) (t':=t) Un.refl I.hok
theorem Inv.kept {t':Nat} (I:Inv X pins σ H s) (k:∀b u,s.heap.get? b=some u->h'.get? b=some u):Inv X pins σ H {s with heap:=h',toks:=t'}:=I.un (Un.kept k) (I.hok.kept k)
theorem Inv.laid {a:Addr} {o:HO} {t':Nat} (I:Inv X pins σ H s) (k:∀b u,s.heap.get? b=some u->h'.get? b=some u) (hp:s.heap.objs.size<=a) (new:ObjOk X.prog X.w (zl H a o) h' a o):
 Inv X pins σ (zl H a o) {s with heap:=h',toks:=t'}:=I.un (Un.laid k hp (I.hok.fresh hp)) (I.hok.laid k hp new)
theorem Inv.write {x e:Addr} {o:HO} {t':Nat} (I:Inv X pins σ H s) (mu:Mut (H x)) (he:e=x\/H e=some (.own x)) (k:∀b u,b≠e->s.heap.get? b=some u->h'.get? b=some u) (heo:∃u,h'.get? e=some u)
 (new:ObjOk X.prog X.w (zl H x o) h' x o):Inv X pins σ (zl H x o) {s with heap:=h',toks:=t'}:=I.un (Un.write mu he k heo) (I.hok.write mu he k heo new)
def Inv.pins_of {pins':AL} (I:Inv X pins σ H s) (h:∀p∈pins',s.heap.get? p.1=some p.2/\H p.1=none/\p.1≠X.env.locals/\p.1∉X.fs/\∀v,p.2.data≠ .cell v):Inv X pins' σ H s:=
 ⟨I.ok,I.os,I.bare,I.base,I.loc,I.cell,I.free,I.freeC,fun p hp=>(A0.mp hp).elim (fun z=>I.pin p (Cy _ z)) (h p),I.hok,I.len⟩
def GD {N:List Str} (hN:N.Nodup) {i j:Nat} {x:Str} (a:N[i]? =some x) (b:N[j]? =some x):i=j:=by
 obtain⟨h1,e1⟩:=As.mp a;obtain⟨h2,e2⟩:=As.mp b;exact (List.getElem_inj hN).mp (e1.trans e2.symm)
def Ld {M:Model} {A:Around} {E:VP} {i:Nat} {x:Str} {v:V} {u:Value} {Q:Unit->Shared->Prop} (I:Inv X pins σ H s) (hN:X.N.Nodup) (hi:X.N[i]? =some x) (hx:jq X.env.scope x) (r:RelV v u)
  (h:∀s',Inv X pins (σ.set i (some v)) H s'->(∃a,Heap.SameBut a s.heap s'.heap/\(a=X.env.locals\/X.env.cells.lookup x=some a))->Q () s') (hf:X.fn x=true\/X.env.scope.names.lookup x=some .local:=by first|exact .inl rfl|exact .inr rfl|assumption):wpAny M A (storeName X.env x u) Q E s:=by
 obtain⟨m,hn,hl⟩:=id I.loc;have hcls:(X.env.scope.kind== .class || (X.env.scope.kind== .module && X.env.locals !=X.env.globals))=false:=by rw[I.ok.kind];rfl
 have hiσ:i<σ.length:=by rw[I.len];exact (As.mp hi).1
 have cne:=I.cne;have tracked:∀{a:Addr} {h':Heap},(∃o,s.heap.get? a=some o/\H a=none)->Heap.SameBut a s.heap h'->HOk X.prog X.w H h':=fun {a h'} ha hs b ob e=>by
  obtain⟨_,_,hfree⟩:=ha
  refine (I.hok b ob e).stay (fun c w' hc q=>(hs.2 c ?_).trans q) (fun _ q=>q) fun _ _ q=>q
  rintro rfl
  rcases hc with rfl|hc
  .rw[hfree]at e;cases e
  .rw[hfree]at hc;cases hc
 rcases hx with hk|hk
 .refine wpAny_storeName_local hk hn (fun h' hn' hs=>?_) hcls
  obtain⟨oL,_,_,hoL,_⟩:=id hn
  refine h _ ⟨I.ok,I.os,I.bare,⟨fun b o e n hb hx=>?_,fun b o e n hb hx=>?_,I.base.free,fun b o e hx=>?_,I.base.tups,I.base.frzs,I.base.tbls⟩,⟨_,hn',fun j y v' e1 e2 e3=>?_⟩,fun y c e=>?_,I.free,I.freeC,fun p hp=>?_,tracked ⟨oL,hoL,I.free⟩ hs,by simpa using I.len⟩ ⟨_,hs,.inl rfl⟩
  .exact (hs.2 b (Ap (Ar (Ad e) I.ok.above))).trans (I.base.keep b o e n hb hx)
  .obtain⟨sl,e1⟩:=I.base.slot b o e n hb hx
   exact⟨sl,(hs.2 b (Ap (Ar (Ad e) I.ok.above))).trans e1⟩
  .obtain⟨o',e1⟩:=I.base.there b o e hx
   exact⟨o',(hs.2 b (Ap (Ar (Ad e) I.ok.above))).trans e1⟩
  .by_cases hj:j=i
   .subst hj
    rw[hi]at e1;cases e1;rw[Df hiσ]at e2;cases e2;exact⟨u,r,.inl ⟨hk,by simp⟩⟩
   .rw[Cz (Bl hj)]at e2
    obtain⟨u',r',q⟩:=hl j y v' e1 e2 e3
    refine⟨u',r',?_⟩
    rcases q with ⟨k,e⟩|⟨k,c,e,z⟩
    .refine .inl ⟨k,?_⟩
     have:y≠x:=fun e=>hj (GD hN e1 (e ▸ hi))
     simp[this,e]
    .exact .inr ⟨k,c,e,z.sameBut hs (cne y c e)⟩
  .obtain⟨w',z⟩:=I.cell y c e
   exact⟨w',z.sameBut hs (cne y c e)⟩
  .obtain⟨e,n,ne,nf,d⟩:=I.pin p hp
   exact⟨(hs.2 p.1 ne).trans e,n,ne,nf,d⟩
 .have hfn:X.fn x=true:=by
   rcases hf with z|z
   .exact z
   .rw[z]at hk;cases hk
  obtain⟨c,hc⟩:=I.ok.has x (.inl hk);obtain⟨w',z⟩:=I.cell x c hc
  refine wpAny_storeName_cell I.ok.kind hk hc z (fun h' hc' hs=>?_)
  obtain⟨oc,hoc,hocd⟩:=id z
  refine h {s with heap:=h'} ⟨I.ok,I.os,I.bare,⟨fun b o e n hb hx=>?_,fun b o e n hb hx=>?_,I.base.free,fun b o e hx=>?_,I.base.tups,I.base.frzs,I.base.tbls⟩,⟨m,hn.sameBut hs (Bl (cne x c hc)),fun j y v' e1 e2 e3=>?_⟩,fun y c' e=>?_,I.free,I.freeC,fun p hp=>?_,tracked ⟨oc,hoc,I.freeC x c hc⟩ hs,by simpa using I.len⟩ ⟨c,hs,.inr hc⟩
  .exact (hs.2 b (Ap (Ar (Ad e) (I.ok.cab x c hfn hc)))).trans (I.base.keep b o e n hb hx)
  .obtain⟨sl,e1⟩:=I.base.slot b o e n hb hx
   exact⟨sl,(hs.2 b (Ap (Ar (Ad e) (I.ok.cab x c hfn hc)))).trans e1⟩
  .obtain⟨o',e1⟩:=I.base.there b o e hx
   exact⟨o',(hs.2 b (Ap (Ar (Ad e) (I.ok.cab x c hfn hc)))).trans e1⟩
  .by_cases hj:j=i
   .subst hj
    rw[hi]at e1;cases e1;rw[Df hiσ]at e2;cases e2;exact⟨u,r,.inr ⟨.inl hk,c,hc,hc'⟩⟩
   .rw[Cz (Bl hj)]at e2
    obtain⟨u',r',q⟩:=hl j y v' e1 e2 e3
    refine⟨u',r',?_⟩
    rcases q with q|⟨k,c',e,z'⟩
    .exact .inl q
    .refine .inr ⟨k,c',e,z'.sameBut hs ?_⟩
     rintro rfl;exact hj (GD hN e1 (I.ok.inj _ _ _ e hc ▸ hi))
  .by_cases hcc:c'=c
   .subst hcc;exact⟨_,hc'⟩
   .obtain⟨w2,z2⟩:=I.cell y c' e
    exact⟨w2,z2.sameBut hs hcc⟩
  .obtain⟨e,n,ne,nf,d⟩:=I.pin p hp
   refine⟨(hs.2 p.1 ?_).trans e,n,ne,nf,d⟩
   intro q;rw[q,hoc]at e;have q':oc=p.2:=Option.some.inj e;exact d w' (by rw[<-q'];exact hocd)
def E8 {M:Model} {A:Around} {E:VP} {i:Nat} {x:Str} {v:V} {u:Value} {Q:Unit->Shared->Prop} (I:Inv X pins σ H s) (hN:X.N.Nodup) (hi:X.N[i]? =some x) (hx:jq X.env.scope x) (r:RelV v u)
  (h:∀s',Inv X pins (σ.set i (some v)) H s'->Q () s') (hf:X.fn x=true\/X.env.scope.names.lookup x=some .local:=by first|exact .inl rfl|exact .inr rfl|assumption):wpAny M A (storeName X.env x u) Q E s:=
 Ld I hN hi hx r (fun s' I' _=>h s' I') hf
def Inv.call' {s':Shared} {ch:List Addr} (I:Inv X pins σ H s) (ho:s'.os=s.os) (u:Un (zS X.stack) ch H H' s.heap s'.heap) (hok:HOk X.prog X.w H' s'.heap) (hg:AllBare s'.gens)
  (hch:∀b∈ch,(b∈X.ex\/X.s₀.heap.objs.size<=b)/\b≠X.env.locals/\(∀x c,X.env.cells.lookup x=some c->c≠b)/\∀p∈X.pn++pins,p.1≠b):Inv X pins σ H' s':=by
 obtain⟨h',g',d',t',o'⟩:=s';have e:o'=s.os:=ho;subst e;exact I.call (g':=g') (t':=t') (d':=d') u hok hg hch
end
abbrev XK:=Value->Option Addr->Hp->Prop
abbrev St:=List (Option V)
abbrev VK:=V->Hp->Prop
abbrev TE:=St->Hp->VK->Prop
abbrev TT:=St->Hp->(Bool->Hp->Prop)->Prop
abbrev TA:=St->Hp->(List V->Hp->Prop)->Prop
structure Ends where
 nx:St->Hp->Prop
 rt:VK
 bk:St->Hp->Prop:=fun _ _=>False
 ct:St->Hp->Prop:=fun _ _=>False
abbrev TS:=Ends->St->Hp->Prop
def EP (X:Cx) (pins:AL) (σ:St) (Q:VK) (u:Value) (s':Shared):Prop:=∃v H',Inv X pins σ H' s'/\RelV v u/\Q v H'
def TP (X:Cx) (pins:AL) (σ:St) (Q:Bool->Hp->Prop) (b:Bool) (s':Shared):Prop:=∃H',Inv X pins σ H' s'/\Q b H'
def AP (X:Cx) (pins:AL) (σ:St) (Q:List V->Hp->Prop) (us:List Value) (s':Shared):Prop:=∃vs H',Inv X pins σ H' s'/\Vals vs us/\Q vs H'
def SP (X:Cx) (pins:AL) (D:Ends) (f:Flow) (s':Shared):Prop:=
 match f with
 |.next=> ∃σ' H',Inv X pins σ' H' s'/\D.nx σ' H'
 |.brk=> ∃σ' H',Inv X pins σ' H' s'/\D.bk σ' H'
 |.cont=> ∃σ' H',Inv X pins σ' H' s'/\D.ct σ' H'
 |.ret u=> ∃v σ' H',Inv X pins σ' H' s'/\RelV v u/\D.rt v H'
def PE (X:Cx) (e:Expr) (t:TE):Prop:=
 ∀(pins:AL) (s:Shared) (σ:St) (H:Hp) (Q:VK),Inv X pins σ H s->t σ H Q->wpAny (model X.prog X.w) X.A (eval e X.env) (EP X pins σ Q) X.xe s
def PT (X:Cx) (e:Expr) (t:TT):Prop:=
 ∀(pins:AL) (s:Shared) (σ:St) (H:Hp) (Q:Bool->Hp->Prop),Inv X pins σ H s->t σ H Q->wpAny (model X.prog X.w) X.A (isTrue e X.env (eval e X.env)) (TP X pins σ Q) X.xe s
def PW (X:Cx) (e:Expr) (t:TT):Prop:=
 ∀(whole:Sem Value) (pins:AL) (s:Shared) (σ:St) (H:Hp) (Q:Bool->Hp->Prop),Inv X pins σ H s->t σ H Q->wpAny (model X.prog X.w) X.A (isTrue e X.env whole) (TP X pins σ Q) X.xe s
def PW.pt {X:Cx} {e:Expr} {t:TT} (h:PW X e t):PT X e t:=h _
def PA (X:Cx) (es:List Expr) (t:TA):Prop:=
 ∀(pos:Pos) (pins:AL) (s:Shared) (σ:St) (H:Hp) (Q:List V->Hp->Prop),Inv X pins σ H s->t σ H Q->wpAny (model X.prog X.w) X.A (spliced (backTo pos (starEach es X.env))) (AP X pins σ Q) X.xe s
def PS (X:Cx) (st:Stmt) (t:TS):Prop:=
 ∀(pins:AL) (s:Shared) (σ:St) (H:Hp) (D:Ends),Inv X pins σ H s->t D σ H->wpAny (model X.prog X.w) X.A (exec st X.env) (SP X pins D) X.xe s
def yB (X:Cx) (st:List Stmt) (t:TS):Prop:=
 ∀(pins:AL) (s:Shared) (σ:St) (H:Hp) (D:Ends),Inv X pins σ H s->t D σ H->wpAny (model X.prog X.w) X.A (execs st X.env) (SP X pins D) X.xe s
def zp {α:Type} {t:Sem α} {Q Q':α->Shared->Prop} {M:Model} {A:Around} {E:VP} {s:Shared} (h:wpAny M A t Q E s) (hQ:∀a s,Q a s->Q' a s):wpAny M A t Q' E s:=Aw h hQ fun _ _ x=>x
section
variable {X:Cx}
def tVar (i:Nat):TE:=fun σ H Q=> ∃v,σ[i]? =some (some v)/\Q v H
def tC (v:V):TE:=fun _ H Q=>Q v H
def Lf {i:Nat} {x:Str} {pos:Pos} (hN:X.N[i]? =some x) (hv:Vis X.env.scope x) (hd:(x==("__debug__" :Str))=false:=by decide) (hcd:(x==("__classdict__" :Str))=false:=by decide):PE X (.Name x pos) (tVar i):=by
 intro pins s σ H Q I h;obtain⟨v,e,h⟩:=h;obtain⟨m,hn,hl⟩:=I.loc;obtain⟨u,r,l⟩:=hl i x v hN e hv;have fin:EP X pins σ Q u s:=⟨v,H,I,r,h⟩
 rcases l with ⟨hk,hm⟩|⟨hk,c,hc,hcell⟩
 .exact wpAny_Name (wpAny_loadName_local I.ok.kind hk hn hm fin) hd
 .rcases hk with hk|hk
  .exact wpAny_Name (wpAny_loadName_cell I.ok.kind hk hc hcell fin) hd
  .exact wpAny_Name (wpAny_loadName_free I.ok.kind hk hc hcell fin hcd) hd
def Lg {i j pos}:PE X (.Constant (.int i) j pos) (tC (.int i)):=fun _ _ _ H _ I h=>wpAny_Constant_int ⟨.int i,H,I.tok _,⟨_,rfl⟩,h⟩
def Lh {b j pos}:PE X (.Constant (.bool b) j pos) (tC (.bl b)):=fun _ _ _ H _ I h=>Constant_bool ⟨.bl b,H,I,rfl,h⟩
def Li {j pos}:PE X (.Constant .none j pos) (tC .non):=fun _ _ _ H _ I h=>Constant_none ⟨.non,H,I,rfl,h⟩
def Lj {x j pos}:PE X (.Constant (.str x) j pos) (tC (.str x)):=fun _ _ _ H _ I h=>Calls.Constant_str ⟨.str x,H,I.tok _,⟨_,rfl⟩,h⟩
def Gl (X:Cx) (x:Str):Prop:=X.env.kindOf x=some .globalImplicit
def DM {E:VP} {pins:AL} {s:Shared} {σ:St} {H:Hp} {x:Str} {u:Value} {pos:Pos} {Q:VP} (I:Inv X pins σ H s) (hg:Gl X x) (hm:X.mg x=some u) (h:Q u s)
  (hd:(x==("__debug__" :Str))=false:=by decide):wpAny (model X.prog X.w) X.A (eval (.Name x pos) X.env) Q E s:=
 Calls.Name_function_global I.ok.kind hg (Calls.loadGlobal_global (by rw[I.ok.glob];exact I.mod.glob.keeps I.bk) hm h) hd
def CG {E:VP} {pins:AL} {s:Shared} {σ:St} {H:Hp} {x:Str} {u:Value} {pos:Pos} {Q:VP} (I:Inv X pins σ H s) (hg:Gl X x) (hm:X.mg x=none) (hv:bootBuiltins x=some u) (h:Q u s)
  (hn:x≠"__name__" :=by decide) (hd:(x==("__debug__" :Str))=false:=by decide):wpAny (model X.prog X.w) X.A (eval (.Name x pos) X.env) Q E s:=by
 obtain⟨mb,h1,h2⟩:=I.mod.blt;exact Calls.Name_function_global I.ok.kind hg (Calls.loadGlobal_builtin (by rw[I.ok.glob];exact I.mod.glob.keeps I.bk) hm (by rw[I.ok.blt];exact h1.keeps I.bk) ((h2 x hn).trans hv) h) hd
def jt {x:Str} {v:V} {u:Value} {pos:Pos} (hg:Gl X x) (hm:X.mg x=some u) (r:RelV v u) (hd:(x==("__debug__" :Str))=false:=by decide):PE X (.Name x pos) (tC v):=
 fun _ _ _ H _ I h=>DM I hg hm ⟨v,H,I,r,h⟩ hd
def Lk {x:Str} {v:V} {u:Value} {pos:Pos} (hg:Gl X x) (hm:X.mg x=none) (hv:bootBuiltins x=some u) (r:RelV v u) (hn:x≠"__name__" :=by decide) (hd:(x==("__debug__" :Str))=false:=by decide):PE X (.Name x pos) (tC v):=
 fun _ _ _ H _ I h=>CG I hg hm hv ⟨v,H,I,r,h⟩ hn hd
variable {a b:Expr} {ta tb:TE} {pos:Pos}
def tB (t:TE):TT:=fun σ H Q=>t σ H fun x H1=> ∃c,x=.bl c/\Q c H1
def Ll {e:Expr} {t:TE} (h:PE X e t) (he:∀whole,isTrue e X.env whole=(do let v <-whole;standAt e.pos;holding [v] (truthy v)):=by intro _;rfl):PT X e (tB t):=by
 intro pins s σ H Q I hw
 refine isTrue_plain (zp (h pins s σ H _ I hw) fun v s1 ⟨x,H1,I1,r1,q1⟩=>?_) (he _)
 obtain⟨d,rfl,q⟩:=q1;cases r1;exact By ⟨H1,I1,q⟩
variable {tA tB':TT} {rest:List Expr}
def tAnd (t u:TT):TT:=fun σ H Q=>t σ H fun c H1=>if c=true then u σ H1 Q else Q false H1
def tOr (t u:TT):TT:=fun σ H Q=>t σ H fun c H1=>if c=true then Q true H1 else u σ H1 Q
def tNot (t:TT):TT:=fun σ H Q=>t σ H fun c H1=>Q (!c) H1
def Lm (ha:PT X a tA):PW X (.BoolOp .And [a] pos) tA:=by
 intro wh pins s σ H Q I h
 refine isTrue_and (zp (ha pins s σ H Q I h) fun c s1 e=>?_)
 cases c with
 |true=>exact isTrue_and_nil e
 |false=>exact e
def Ln (ha:PT X a tA):PW X (.BoolOp .Or [a] pos) tA:=by
 intro wh pins s σ H Q I h
 refine isTrue_or (zp (ha pins s σ H Q I h) fun c s1 e=>?_)
 cases c with
 |false=>exact isTrue_or_nil e
 |true=>exact e
def Lo (ha:PT X a tA) (hb:PW X (.BoolOp .And (b::rest) pos) tB'):PW X (.BoolOp .And (a::b::rest) pos) (tAnd tA tB'):=by
 intro wh pins s σ H Q I h
 refine isTrue_and (zp (ha pins s σ H _ I h) fun c s1 ⟨H1,I1,q1⟩=>?_)
 cases c with
 |true=>exact hb wh pins s1 σ H1 Q I1 q1
 |false=>exact⟨H1,I1,q1⟩
def Lp (ha:PT X a tA) (hb:PW X (.BoolOp .Or (b::rest) pos) tB'):PW X (.BoolOp .Or (a::b::rest) pos) (tOr tA tB'):=by
 intro wh pins s σ H Q I h
 refine isTrue_or (zp (ha pins s σ H _ I h) fun c s1 ⟨H1,I1,q1⟩=>?_)
 cases c with
 |true=>exact⟨H1,I1,q1⟩
 |false=>exact hb wh pins s1 σ H1 Q I1 q1
def Lq (ha:PT X a tA):PT X (.UnaryOp .Not a pos) (tNot tA):=by
 intro pins s σ H Q I h;exact isTrue_not (ha pins s σ H (fun c H1=>Q (!c) H1) I h)
def Lr (ta tb:TE):TE:=fun σ H Q=>ta σ H fun x H1=> ∃c,x=.bl c/\if c=true then tb σ H1 Q else Q (.bl false) H1
def tOrV (ta tb:TE):TE:=fun σ H Q=>ta σ H fun x H1=> ∃c,x=.bl c/\if c=true then Q (.bl true) H1 else tb σ H1 Q
def Ls (ta:TE):TE:=fun σ H Q=>ta σ H fun x H1=> ∃c,x=.bl c/\Q (.bl (!c)) H1
def Lu {op} {t:TE} (h:PE X a t):PE X (.BoolOp op [a] pos) t:=fun pins s σ H Q I hw=>BoolOp_one (h pins s σ H Q I hw)
def Lv (ha:PE X a ta) (hb:PE X (.BoolOp .And (b::rest) pos) tb):PE X (.BoolOp .And (a::b::rest) pos) (Lr ta tb):=by
 intro pins s σ H Q I h
 refine BoolOp_and (zp (ha pins s σ H _ I h) fun v s1 ⟨x,H1,I1,r1,q1⟩=>?_)
 obtain⟨c,rfl,q1⟩:=q1;cases r1
 refine By ?_
 cases c with
 |true=>exact hb pins s1 σ H1 Q I1 q1
 |false=>exact⟨.bl false,H1,I1,rfl,q1⟩
def Lw (ha:PE X a ta) (hb:PE X (.BoolOp .Or (b::rest) pos) tb):PE X (.BoolOp .Or (a::b::rest) pos) (tOrV ta tb):=by
 intro pins s σ H Q I h
 refine BoolOp_or (zp (ha pins s σ H _ I h) fun v s1 ⟨x,H1,I1,r1,q1⟩=>?_)
 obtain⟨c,rfl,q1⟩:=q1;cases r1
 refine By ?_
 cases c with
 |false=>exact hb pins s1 σ H1 Q I1 q1
 |true=>exact⟨.bl true,H1,I1,rfl,q1⟩
def Lx (ha:PE X a ta):PE X (.UnaryOp .Not a pos) (Ls ta):=by
 intro pins s σ H Q I h
 refine UnaryOp_ (zp (ha pins s σ H _ I h) fun v s1 ⟨x,H1,I1,r1,q1⟩=>?_)
 obtain⟨c,rfl,q1⟩:=q1;cases r1;exact not_of (By ⟨.bl (!c),H1,I1,rfl,q1⟩)
def tIf (t:TT) (ta tb:TE):TE:=fun σ H Q=>t σ H fun c H1=>if c=true then ta σ H1 Q else tb σ H1 Q
def Ly {c:Expr} (hc:PT X c tA) (ha:PE X a ta) (hb:PE X b tb):PE X (.IfExp c a b pos) (tIf tA ta tb):=by
 intro pins s σ H Q I h
 refine wpAny_IfExp (zp (hc pins s σ H _ I h) fun d s1 ⟨H1,I1,q1⟩=>?_)
 cases d with
 |true=>exact ha pins s1 σ H1 Q I1 q1
 |false=>exact hb pins s1 σ H1 Q I1 q1
end
def SqL (K:FG) (H:Hp) (a:Addr) (xs:List V):Prop:=
 Rd H a (.lst xs)\/
  ∃(o:Obj) (its:Array Value) (n:Nat),K.lookup a=some o/\o.cls=.type "list" /\o.dict=none/\o.data=.seq its n/\its.size<=sizeLine/\Vals xs its.toList
def SqT (K:FG) (H:Hp) (a:Addr) (xs:List V):Prop:=
 Rd H a (.tup xs)\/
  ∃(o:Obj) (its:Array Value) (n:Nat),K.lookup a=some o/\o.cls=.type "tuple" /\o.data=.seq its n/\its.size<=sizeLine/\Vals xs its.toList
def absV:Value->Option V
 |.none=>some .non
 |.bool b=>some (.bl b)
 |.int i _=>some (.int i)
 |.str x _=>some (.str x)
 |.bytes b _=>some (.byt b)
 |.float b _=>some (.flt b)
 |.ref a=>some (.ref a)
 |.type n=>some (.ty n)
 |_=>none
def RelV.abs {x:V} {u:Value} (r:RelV x u):absV u=some x:=by
 cases x with
 |non=>cases r;rfl
 |bl _=>cases r;rfl
 |int _=>obtain⟨t,rfl⟩:=r;rfl
 |str _=>obtain⟨t,rfl⟩:=r;rfl
 |byt _=>obtain⟨t,rfl⟩:=r;rfl
 |flt _=>obtain⟨t,rfl⟩:=r;rfl
 |ref _=>cases r;rfl
 |ty _=>cases r;rfl
theorem RelV.inj {x y:V} {u:Value} (r:RelV x u) (q:RelV y u):x=y:=Option.some.inj (r.abs.symm.trans q.abs)
theorem Vals.inj:∀{xs ys:List V} {us:List Value},Vals xs us->Vals ys us->xs=ys
 |_,_,_,.nil,.nil=>rfl
 |_,_,_,.cons r t,.cons r' t'=>by rw[r.inj r',Vals.inj t t']
section
variable {X:Cx} {pins:AL} {σ:St} {H:Hp} {s:Shared} {a:Addr} {xs ys:List V}
def SqL.of {K:FG} (h:H a=some (.lst xs)):SqL K H a xs:= .inl (.inl h)
def SqT.of {K:FG} (h:H a=some (.tup xs)):SqT K H a xs:= .inl (.inl h)
def Inv.list (I:Inv X pins σ H s) (h:SqL X.K H a xs):∃its:List Value,Vals xs its/\PlainL s.heap a its.toArray/\xs.length<=sizeLine:=by
 rcases h with h|⟨o,its,n,hk,hc,hd,hs,hz,r⟩
 .obtain⟨z,its,n,r,e⟩:=h.ok I.hok
  exact⟨its,r,⟨_,n,e,rfl,rfl,rfl⟩,z⟩
 .refine⟨its.toList,r,⟨o,n,I.kIn a o hk,hc,hd,by simpa using hs⟩,?_⟩
  have e:=r.length;simp only[Bz]at e;lia
def Inv.tuple (I:Inv X pins σ H s) (h:SqT X.K H a xs):∃its:List Value,Vals xs its/\IsTup s.heap a its.toArray/\xs.length<=sizeLine:=by
 rcases h with h|⟨o,its,n,hk,hc,hs,hz,r⟩
 .obtain⟨z,its,r,p⟩:=h.ok I.hok
  exact⟨its,r,p,z⟩
 .refine⟨its.toList,r,⟨o,I.kIn a o hk,hc,n,by simpa using hs⟩,?_⟩
  have e:=r.length;simp only[Bz]at e;lia
def Inv.list_inj (I:Inv X pins σ H s) (h:SqL X.K H a xs) (h':SqL X.K H a ys):xs=ys:=by
 obtain⟨its,r,⟨o,n,e,_,_,d⟩,_⟩:=I.list h;obtain⟨its',r',⟨o',n',e',_,_,d'⟩,_⟩:=I.list h';rw[e]at e';cases e';rw[d]at d';injection d' with d1 _
 have:its=its':=by simpa using congrArg Array.toList d1
 subst this;exact r.inj r'
end
abbrev Cx.wish (X:Cx) (E:VP):Cx:={X with xe:=E}
theorem Cx.Ok.wish {X:Cx} (ok:X.Ok) (E:VP):(X.wish E).Ok:=
 ⟨ok.mod,ok.kind,ok.glob,ok.blt,ok.above,ok.inj,ok.has,ok.cab,ok.hd,ok.frames,ok.stk,ok.exf,ok.bs,ok.bsz,ok.noex,ok.exfs,ok.funs,ok.frf⟩
def Cx.Ok.unwish {X:Cx} {E:VP} (ok:(X.wish E).Ok):X.Ok:=
 ⟨ok.mod,ok.kind,ok.glob,ok.blt,ok.above,ok.inj,ok.has,ok.cab,ok.hd,ok.frames,ok.stk,ok.exf,ok.bs,ok.bsz,ok.noex,ok.exfs,ok.funs,ok.frf⟩
section
variable {X:Cx} {pins:AL} {σ:St} {H:Hp} {s:Shared} {E:VP}
theorem Inv.wish (I:Inv X pins σ H s) (E:VP):Inv (X.wish E) pins σ H s:=⟨I.ok.wish E,I.os,I.bare,I.base,I.loc,I.cell,I.free,I.freeC,I.pin,I.hok,I.len⟩
theorem Inv.unwish (I:Inv (X.wish E) pins σ H s):Inv X pins σ H s:=⟨I.ok.unwish,I.os,I.bare,I.base,I.loc,I.cell,I.free,I.freeC,I.pin,I.hok,I.len⟩
end
section
variable {X:Cx} {st:Stmt} {rest:List Stmt} {t u:TS} {e:Expr} {te:TE} {pos:Pos}
def Lz:TS:=fun D σ H=>D.nx σ H
def tSeq (t u:TS):TS:=fun D σ H=>t {D with nx:=u D} σ H
def L0:yB X [] Lz:=fun _ _ σ H _ I h=>wpAny_execs_nil ⟨σ,H,I,h⟩
def L1 (h1:PS X st t) (h2:yB X rest u):yB X (st::rest) (tSeq t u):=by
 intro pins s σ H D I h
 refine wpAny_execs_cons (zp (h1 pins s σ H {D with nx:=u D} I h) fun f s1 q=>?_)
 cases f with
 |next=>
  obtain⟨σ',H',I',q⟩:=q;exact h2 pins s1 σ' H' D I' q
 |ret v=>exact q
 |brk=>exact q
 |cont=>exact q
def Ik (h1:PS X st t):yB X [st] t:=by
 intro pins s σ H D I h
 refine wpAny_execs_cons (zp (h1 pins s σ H D I h) fun f s1 q=>?_)
 cases f with
 |next=>exact wpAny_execs_nil q
 |ret v=>exact q
 |brk=>exact q
 |cont=>exact q
def Inv.quiet {pins:AL} {σ:St} {H:Hp} {s:Shared} (I:Inv X pins σ H s):interactive X.env=false:=by simp[interactive,I.ok.kind]
def L5 (te:TE):TS:=fun D σ H=>te σ H fun _ H1=>D.nx σ H1
def L6 (he:PE X e te) (hs:swapsWith e none pos.line X.env=pure false:=by rfl):PS X (.Expr e pos) (L5 te):=by
 intro pins s σ H D I h;exact wpAny_Expr_any (zp (he pins s σ H _ I h) fun v s1 ⟨x,H1,I1,r1,q1⟩=>⟨σ,H1,I1,q1⟩) I.quiet hs
def tRet (te:TE):TS:=fun D σ H=>te σ H D.rt
def Il (he:PE X e te):PS X (.Return (some e) pos) (tRet te):=by
 intro pins s σ H D I h;exact wpAny_Return_some (zp (he pins s σ H _ I h) fun v s1 ⟨x,H1,I1,r1,q1⟩=>⟨x,σ,H1,I1,r1,q1⟩)
def tIfS (c:TT) (t u:TS):TS:=fun D σ H=>c σ H fun b H1=>if b=true then t D σ H1 else u D σ H1
def L7 {c:Expr} {a b:List Stmt} {tc:TT} (hc:PT X c tc) (ha:yB X a t) (hb:yB X b u):PS X (.If c a b pos) (tIfS tc t u):=by
 intro pins s σ H D I h
 refine wpAny_If (zp (hc pins s σ H _ I h) fun d s1 ⟨H1,I1,q1⟩=>?_)
 cases d with
 |true=>exact ha pins s1 σ H1 D I1 q1
 |false=>exact hb pins s1 σ H1 D I1 q1
end
abbrev TG:=V->St->Hp->(St->Hp->Prop)->Prop
abbrev jp:=List V->St->Hp->(St->Hp->Prop)->Prop
def PG (X:Cx) (target:Expr) (t:TG):Prop:=
 ∀(pins:AL) (s:Shared) (σ:St) (H:Hp) (v:V) (u:Value) (Q:St->Hp->Prop),Inv X pins σ H s->RelV v u->t v σ H Q->
  wpAny (model X.prog X.w) X.A (assign target X.env u) (fun _ s'=> ∃σ' H',Inv X pins σ' H' s'/\Q σ' H') X.xe s
def jl (X:Cx) (ts:List Expr) (t:jp):Prop:=
 ∀(pins:AL) (s:Shared) (σ:St) (H:Hp) (vs:List V) (us:List Value) (Q:St->Hp->Prop),Inv X pins σ H s->Vals vs us->t vs σ H Q->
  wpAny (model X.prog X.w) X.A (assignInOrder ((assignEach ts X.env).map (·.2)) us) (fun _ s'=> ∃σ' H',Inv X pins σ' H' s'/\Q σ' H') X.xe s
abbrev TSet:=V->V->V->Hp->(Hp->Prop)->Prop
def PSet (X:Cx) (t:TSet):Prop:=
 ∀(pins:AL) (s:Shared) (σ:St) (H:Hp) (o i v:V) (ov iv u:Value) (Q:Hp->Prop),Inv X pins σ H s->RelV o ov->RelV i iv->RelV v u->t o i v H Q->
  wpAny (model X.prog X.w) X.A (setItem ov iv u) (fun _ s'=> ∃H',Inv X pins σ H' s'/\Q H') X.xe s
section
variable {X:Cx} {pos:Pos}
def DN (i:Nat):TG:=fun v σ H Q=>Q (σ.set i (some v)) H
def Im {i:Nat} {x:Str} (hN:X.N.Nodup) (hi:X.N[i]? =some x) (hx:jq X.env.scope x) (hf:X.fn x=true\/X.env.scope.names.lookup x=some .local:=by first|exact .inl rfl|exact .inr rfl|assumption):PG X (.Name x pos) (DN i):=by
 intro pins s σ H v u Q I r h;exact wpAny_assign_Name (E8 I hN hi hx r (fun s' I'=>⟨_,H,I',h⟩) hf)
def gNil:jp:=fun vs σ H Q=>vs=[]/\Q σ H
def Io (t:TG) (u:jp):jp:=fun vs σ H Q=> ∃v r,vs=v::r/\t v σ H fun σ' H'=>u r σ' H' Q
def L8:jl X [] gNil:=by
 intro pins s σ H vs us Q I r h;obtain⟨e,h⟩:=h;subst e;cases r;exact assignInOrder_nil ⟨σ,H,I,h⟩
def yT {e:Expr} {es:List Expr} {t:TG} {u:jp} (h1:PG X e t) (h2:jl X es u)
  (hs:(assignEach (e::es) X.env).map (·.2)=assign e X.env::(assignEach es X.env).map (·.2):=by rfl):jl X (e::es) (Io t u):=by
 intro pins s σ H vs us Q I r h;obtain⟨v,vr,e1,h⟩:=h;subst e1;cases r with
 |cons r rr=>
  rw[hs]
  refine assignInOrder_cons (zp (h1 pins s σ H _ _ _ I r h) fun _ s1 ⟨σ1,H1,I1,q1⟩=>?_)
  exact h2 pins s1 σ1 H1 _ _ Q I1 rr q1
def gTup (K:FG) (n:Nat) (t:jp):TG:=fun v σ H Q=> ∃a xs,v=.ref a/\SqT K H a xs/\xs.length=n/\t xs σ H Q
def E9 {es:List Expr} {k:Nat} {t:jp} {n:Nat} (hc:X.calm=true) (h:jl X es t)
  (hn:(assignEach es X.env).length=n:=by rfl) (hst:(assignEach es X.env).findIdx? (·.1)=none:=by rfl):PG X (.Tuple es k pos) (gTup X.K n t):=by
 intro pins s σ H v u Q I r hw;obtain⟨a,xs,e1,hq,hl,hw⟩:=hw;subst e1;cases r;obtain⟨its,rv,ht,hz⟩:=I.tuple hq
 refine assign_Tuple_tuple (I.ok.hd hc) ht (by simp[hn,<-hl,rv.length]) hst fun h' hx=>?_
 have I1:Inv X pins σ H {s with heap:=h'}:=I.kept (t':=s.toks) fun b o e=>hx b o (Ap (Ad e)) e
 exact h pins _ σ H xs _ Q I1 (by simpa using rv) hw
def gSub (to ti:TE) (t:TSet):TG:=fun v σ H Q=>to σ H fun o H1=>ti σ H1 fun i H2=>t o i v H2 fun H3=>Q σ H3
def GE {o i:Expr} {to ti:TE} {t:TSet} (ho:PE X o to) (hi:PE X i ti) (hs:PSet X t)
  (ha:∀v,assign (.Subscript o i pos) X.env v=(do
   let ov <-holding [v] (eval o X.env)
   let iv <-holding [v,ov] (eval i X.env)
   standAt pos
   holding [v,ov,iv] (setItem ov iv v)
   release [v,ov,iv] []):=by intro _;rfl):PG X (.Subscript o i pos) (gSub to ti t):=by
 intro pins s σ H v u Q I r h;rw[ha]
 refine Ac (Bm (zp (ho pins s σ H _ I h) fun ov s1 ⟨x,H1,I1,r1,q1⟩=>?_))
 refine Ac (Bm (zp (hi pins s1 σ H1 _ I1 q1) fun iv s2 ⟨y,H2,I2,r2,q2⟩=>?_))
 refine Ac (Cd (Ac (Bm (zp (hs pins s2 σ H2 x y v ov iv u _ I2 r1 r2 r q2) fun _ s3 ⟨H3,I3,q3⟩=>?_))))
 exact wpAny_release ⟨σ,H3,I3,q3⟩
def tAsg (te:TE) (g:TG):TS:=fun D σ H=>te σ H fun x H1=>g x σ H1 D.nx
def DO {tg e:Expr} {te:TE} {g:TG} (he:PE X e te) (hg:PG X tg g) (hs:swapsWithSole [tg] e pos.line X.env=pure false:=by rfl) (hw:swappedStores [tg] e X.env=pure none:=by rfl)
  (h1:(assignEach [tg] X.env).map (·.2)=[assign tg X.env]:=by rfl):PS X (.Assign [tg] e pos) (tAsg te g):=by
 intro pins s σ H D I h
 refine wpAny_Assign_stores (zp (he pins s σ H _ I h) fun v s1 ⟨x,H1,I1,r1,q1⟩=>?_) hs hw
 rw[h1];exact zp (hg pins s1 σ H1 x v _ I1 r1 q1) fun _ s2 q=>q
def Ip {i:Nat} {x:Str} {e:Expr} {te:TE} {pos':Pos} (hN:X.N.Nodup) (hi:X.N[i]? =some x) (hx:jq X.env.scope x) (he:PE X e te) (hs:swapsWith e (some (.Name x pos')) pos.line X.env=pure false:=by rfl) (hf:X.fn x=true\/X.env.scope.names.lookup x=some .local:=by first|exact .inl rfl|exact .inr rfl|assumption):
  PS X (.Assign [.Name x pos'] e pos) (tAsg te (DN i)):=by
 intro pins s σ H D I h
 refine wpAny_Assign_Name (zp (he pins s σ H _ I h) fun v s1 ⟨y,H1,I1,r1,q1⟩=>?_) hs
 exact E8 I1 hN hi hx r1 (fun s2 I2=>⟨_,H1,I2,q1⟩) hf
end
structure It where
 go:Nat->Hp->Prop
 yld:Nat->Hp->V->Hp->Prop
 stop:Nat->Hp->Prop
def yz (X:Cx) (pins:AL) (H:Hp) (b:Addr):Prop:=
 H b=none/\b≠X.env.locals/\b∉X.fs/\(b∈X.ex\/X.s₀.heap.objs.size<=b)/\(∀x c,X.env.cells.lookup x=some c->c≠b)/\∀p∈X.pn++pins,p.1≠b
def Inv.fpOk {X:Cx} {pins:AL} {σ:St} {H H':Hp} {s:Shared} {b:Addr} (I:Inv X pins σ H s) (hb:s.heap.objs.size<=b) (hn:H' b=none):yz X pins H' b:=by
 refine⟨hn,B0 (Ar I.lt hb),I.nofs hb,.inr (Bc I.sz hb),fun x c e z=>?_,fun p hp z=>?_⟩
 .obtain⟨v,q⟩:=I.cell x c e
  exact absurd (Ar q.lt (by rw[z];exact hb)) (Bi _)
 .exact absurd (Ar (Ad (I.pin p hp).1) (by rw[z];exact hb)) (Bi _)
structure Turn (P:Program) (w:World) (K:FG) (tg:Expr) (J:It) (fp:List Addr) (it:Addr) (tn:Nat->Heap->Prop):Prop where
 mem:it∈fp
 obj:∀i h,tn i h->∀b∈fp,∃o,h.get? b=some o/\∀v,o.data≠ .cell v
 keep:∀i h h',tn i h->(∀b∈fp,∀o,h.get? b=some o->h'.get? b=some o)->tn i h'
 item:∀(X:Cx),X.prog=P->X.w=w->X.K=K->X.calm=true->∀(i:Nat) (pins:AL) (s:Shared) (σ:St) (H:Hp) (E:VP),Inv X pins σ H s->(∀b∈fp,yz X pins H b)->tn i s.heap->J.go i H->
  wpAny (model P w) X.A (pyNext (.ref it)) (fun r s1=> ∃u,r=some u/\
   wpAny (model P w) X.A (letOwnedTupleGo tg (.ref it) u) (fun _ s2=> ∃x H',Inv X pins σ H' s2/\RelV x u/\J.yld i H x H'/\tn (i+1) s2.heap/\∀b∈fp,H' b=none) E s1) E s
 done:∀(X:Cx),X.prog=P->X.w=w->X.K=K->X.calm=true->∀(i:Nat) (pins:AL) (s:Shared) (σ:St) (H:Hp) (E:VP),Inv X pins σ H s->(∀b∈fp,yz X pins H b)->tn i s.heap->J.stop i H->
  wpAny (model P w) X.A (pyNext (.ref it)) (fun r s1=>r=none/\Inv X pins σ H s1) E s
 self:∀(A:Around) (i:Nat) (s:Shared) (Q:VP) (E:VP),tn i s.heap->Q (.ref it) s->wpAny (model P w) A (pyIter (.ref it)) Q E s
abbrev TI:=St->Hp->(It->Hp->Prop)->Prop
def PIE (X:Cx) (pins:AL) (σ:St) (tg:Expr) (R:It->Hp->Prop) (itv:Value) (s2:Shared):Prop:=
 ∃(it:Addr) (fp:List Addr) (tn:Nat->Heap->Prop) (J:It) (H':Hp),itv=.ref it/\Inv X pins σ H' s2/\Turn X.prog X.w X.K tg J fp it tn/\tn 0 s2.heap/\(∀b∈fp,yz X pins H' b)/\R J H'
def PI (X:Cx) (tg iter:Expr) (wi:TI):Prop:=
 ∀(pins:AL) (s:Shared) (σ:St) (H:Hp) (R:It->Hp->Prop),Inv X pins σ H s->wi σ H R->
  wpAny (model X.prog X.w) X.A (eval iter X.env) (fun v s1=>wpAny (model X.prog X.w) X.A (pyIter v) (PIE X pins σ tg R) X.xe s1) X.xe s
def EA {M:Model} {A:Around} {E:VP} {s:Shared} {tg:Expr} {it:Addr} {u:Value} {o:Obj} {n:String} {vs:Array Value} {Q:Unit->Shared->Prop} (ho:s.heap.get? it=some o) (hc:o.cls=.type n) (hd:o.data=.fields vs)
    (hn:["enumerate","zip","dict_itemiterator","dict_reverseitemiterator","odict_iterator","itertools.zip_longest","itertools.pairwise"].contains n=false) (hQ:Q () s):wpAny M A (letOwnedTupleGo tg (.ref it) u) Q E s:=by
  unfold letOwnedTupleGo;cases tg<;>first
    |exact Ag hQ
    | (cases u<;>first
        |exact Ag hQ
        | (refine Ac (wpAny_load ho ?_)
           rw[hc,hd];show wpAny M A (if (["enumerate","zip","dict_itemiterator","dict_reverseitemiterator","odict_iterator","itertools.zip_longest","itertools.pairwise"].contains n && vs[0]? ==some (rawInt _))=true then _ else _) Q E s
           rw[Ab (by intro h;rw[hn,Dg]at h;cases h)]
           exact Ag hQ))
def Itl (K:FG) (a:Addr):It:=
 ⟨fun i H=> ∃xs x,SqL K H a xs/\xs[i]? =some x,fun i H x H'=>H'=H/\∀xs,SqL K H a xs->xs[i]? =some x,fun i H=> ∃xs,SqL K H a xs/\xs.length<=i⟩
def Itr (lo:Int) (n:Nat):It:=⟨fun i _=>i<n,fun i H x H'=>H'=H/\x=.int (lo+i),fun i _=>n<=i⟩
def L9 {P:Program} {w:World} {K:FG} {tg:Expr} (a it:Addr):Turn P w K tg (Itl K a) [it] it (fun i h=>h.IsListIter it a i) where
 mem:=by simp
 obj:=fun i h st b hb=>by
  have e:b=it:=by simpa using hb
  subst e;obtain⟨o,e,c,d⟩:=st;exact⟨o,e,fun v z=>by rw[d]at z;cases z⟩
 keep:=fun i h h' st k=>st.at fun o e=>k it (by simp) o e
 item:=by
  intro X hP hw hK hc i pins s σ H E I hf st hg;subst hP hw hK;obtain⟨xs,x,hq,hx⟩:=hg;obtain⟨its,rv,p,hz⟩:=I.list hq;obtain⟨u,hu,ru⟩:=rv.get hx;obtain⟨f0,f1,f2,f3,f4,f5⟩:=hf it (by simp)
  refine wpAny_pyNext_list_item st p.isList (x:=u) (by simpa using hu) fun h' st' sb=>?_
  have I1:Inv X pins σ H {s with heap:=h'}:=I.turned (t':=s.toks) (fun b o hb e=>(sb.2 b hb).trans e) f0 f1 f3 f4 f5
  obtain⟨o,e,c,d⟩:=id st';exact⟨u,rfl,EA (s:={s with heap:=h'}) e c d (by decide) ⟨x,H,I1,ru,⟨rfl,fun ys hy=>by rw[I.list_inj hy hq];exact hx⟩,st',fun b hb=>(hf b hb).1⟩⟩
 done:=by
  intro X hP hw hK hc i pins s σ H E I hf st hg;subst hP hw hK;obtain⟨xs,hq,hx⟩:=hg;obtain⟨its,rv,p,hz⟩:=I.list hq;obtain⟨f0,f1,f2,f3,f4,f5⟩:=hf it (by simp)
  have hl:=rv.length;exact wpAny_pyNext_list_end (I.ok.hd hc) st p.isList (by simp;lia) fun h' eb=>⟨rfl,I.turned (t':=s.toks) (fun b o hb e=>eb b o hb e) f0 f1 f3 f4 f5⟩
 self:=fun _ _ _ _ _ st h=>wpAny_pyIter_listiter st h
def LA {P:Program} {w:World} {K:FG} {tg:Expr} (it:Addr) (lo:Int) (n:Nat):Turn P w K tg (Itr lo n) [it] it (fun i h=>IsRangeIter h it (lo+(i:Nat)*1) ((n:Int)-(i:Nat)) 1) where
 mem:=by simp
 obj:=fun i h st b hb=>by
  have e:b=it:=by simpa using hb
  subst e;exact⟨_,st,fun v z=>by
   have z':Data.fields _=Data.cell v:=z;cases z'⟩
 keep:=fun i h h' st k=>k it (by simp) _ st
 item:=by
  intro X hP hw hK hc i pins s σ H E I hf st hg;subst hP hw hK;obtain⟨f0,f1,f2,f3,f4,f5⟩:=hf it (by simp)
  have W:=Walks.range (prog:=X.prog) (w:=X.w) (I.ok.hd hc) it lo 1 n
  refine W.item i s _ _ hg st fun v h' tk hv st' kk=>?_
  obtain⟨t,rfl⟩:=hv;have I1:Inv X pins σ H {s with heap:=h',toks:=tk}:=I.turned (fun b o hb e=>kk b o (by simpa using hb) e) f0 f1 f3 f4 f5
  refine⟨_,rfl,EA (s:={s with heap:=h',toks:=tk}) (n:="range_iterator") st' rfl rfl (by decide) ⟨.int (lo+i),H,I1,⟨t,?_⟩,⟨rfl,rfl⟩,st',fun b hb=>(hf b hb).1⟩⟩
  rw[Int.mul_one]
 done:=by
  intro X hP hw hK hc i pins s σ H E I hf st hg;subst hP hw hK;obtain⟨f0,f1,f2,f3,f4,f5⟩:=hf it (by simp)
  exact wpAny_pyNext_range_end (I.ok.hd hc) st (by have:n<=i:=hg;lia) fun h' eb=>⟨rfl,I.turned (t':=s.toks) (fun b o hb e=>eb b o hb e) f0 f1 f3 f4 f5⟩
 self:=fun _ _ _ _ _ st h=>wpAny_pyIter_rangeiter st h
section
variable {X:Cx} {tg:Expr}
def LB (K:FG) (tl:TE):TI:=fun σ H R=>tl σ H fun x H1=> ∃a,x=.ref a/\(∃xs,SqL K H1 a xs)/\R (Itl K a) H1
def LC {l:Expr} {tl:TE} (hl:PE X l tl):PI X tg l (LB X.K tl):=by
 intro pins s σ H R I h
 refine zp (hl pins s σ H _ I h) fun v s1 ⟨x,H1,I1,r1,q1⟩=>?_
 obtain⟨a,e,⟨xs,hq⟩,q⟩:=q1;subst e;cases r1;obtain⟨its,rv,p,hz⟩:=I1.list hq
 refine Dh p.isList ?_
 refine⟨s1.heap.objs.size,[s1.heap.objs.size],_,_,H1,rfl,I1.kept (t':=s1.toks) fun b o e=>Aq _ e,L9 a _,⟨_,A1 _ rfl,rfl,rfl⟩,fun b hb=>?_,q⟩
 have e:b=s1.heap.objs.size:=by simpa using hb
 subst e;exact I1.fpOk (Af _) (I1.hok.fresh (Af _))
def LD {pins:AL} {σ:St} {H:Hp} {s:Shared} {R:It->Hp->Prop} {E:VP} {lo hi:Int} {t u v:Tok} {tk:Nat} (I:Inv X pins σ H s) (h1: -(2 ^ 62)<=lo) (h2:lo<2 ^ 62) (h3: -(2 ^ 62)<=hi) (h4:hi<2 ^ 62)
  (q:R (Itr lo (hi-lo).toNat) H):wpAny (model X.prog X.w) X.A (pyIter (.ref s.heap.objs.size)) (PIE X pins σ tg R) E {s with heap:=s.heap.push {cls:= .type "range",data:= .fields #[.int lo t,.int hi u,.int 1 v]},toks:=tk}:=by
 refine wpAny_pyIter_range (IsRange.new ..) (small_one h1 h2 h3 h4) ?_
 have I1:Inv X pins σ H {s with heap:=s.heap.push {cls:= .type "range",data:= .fields #[.int lo t,.int hi u,.int 1 v]},toks:=tk}:=I.kept fun b o e=>Aq _ e
 refine⟨(s.heap.push {cls:= .type "range",data:= .fields #[.int lo t,.int hi u,.int 1 v]}).objs.size,[(s.heap.push {cls:= .type "range",data:= .fields #[.int lo t,.int hi u,.int 1 v]}).objs.size],_,_,H,rfl,
  I1.kept (t':=tk) fun b o e=>Aq _ e,LA _ lo (hi-lo).toNat,?_,fun b hb=>?_,q⟩
 .have e1:lo+((0:Nat):Int)*1=lo:=by simp
  have e2:(((hi-lo).toNat:Nat):Int)-((0:Nat):Int)=Builtin.Range.rangeSize lo hi 1:=by rw[rangeSize_one];split<;>lia
  show IsRangeIter _ _ (lo+((0:Nat):Int)*1) ((((hi-lo).toNat:Nat):Int)-((0:Nat):Int)) 1;rw[e1,e2];exact A1 _ rfl
 .have e:b=(s.heap.push {cls:= .type "range",data:= .fields #[.int lo t,.int hi u,.int 1 v]}).objs.size:=by simpa using hb
  subst e;exact I1.fpOk (Af _) (I1.hok.fresh (Af _))
def LF (ta:TA):TI:=fun σ H R=>ta σ H fun vs H1=> ∃j:Int,vs=[.int j]/\ -(2 ^ 62)<=j/\j<2 ^ 62/\R (Itr 0 j.toNat) H1
def LG {a:Expr} {ta:TA} {p pos:Pos} (hg:Gl X "range") (hm:X.mg "range" =none) (ha:PA X [a] ta) (hs:starEach [a] X.env=[(false,eval a X.env)]:=by rfl):PI X tg (.Call (.Name "range" p) [a] [] pos) (LF ta):=by
 intro pins s σ H R I h
 refine Call_ (CG I hg hm boot_range (C0 (zp (ha pos pins s σ H _ I h) fun us s1 ⟨vs,H1,I1,r1,q1⟩=>?_) hs rfl))
 obtain⟨j,e,q1,q2,q⟩:=q1;subst e;cases r1 with
 |cons r rr=>
  cases rr;obtain⟨t,rfl⟩:=r;exact call_range_1 (LD I1 (by lia) (by lia) q1 q2 (by simpa using q))
def tFor (wi:TI) (g:TG) (tb:TS):TS:=fun D σ H=>wi σ H fun J H1=> ∃W:Nat->Nat->St->Hp->Prop,(∃m,W 0 m σ H1)/\∀i m σ H,W i m σ H->
 (J.stop i H/\D.nx σ H)\/(J.go i H/\∃N:St->Hp->Prop,(∀σ' H',N σ' H'->∃m',m' < m/\W (i+1) m' σ' H')/\∀x H',J.yld i H x H'->g x σ H' fun σ2 H2=>tb {D with nx:=N,ct:=N,bk:=D.nx} σ2 H2)
def jw (fp:List Addr) (h:Heap):AL:=fp.filterMap fun b=>(h.get? b).map fun o=>(b,o)
def CH {fp:List Addr} {h:Heap} {b:Addr} {o:Obj} (hb:b∈fp) (e:h.get? b=some o):(b,o)∈jw fp h:=Ce.mpr ⟨b,hb,by rw[e];rfl⟩
def LH {fp:List Addr} {h:Heap} {p:Addr×Obj} (hp:p∈jw fp h):p.1∈fp/\h.get? p.1=some p.2:=by
 obtain⟨b,hb,e⟩:=Ce.mp hp;cases q:h.get? b with
 |none=>rw[q]at e;cases e
 |some o=>
  rw[q]at e;have e':(b,o)=p:=Option.some.inj e;subst e';exact⟨hb,q⟩
def Inv.pinned {pins:AL} {σ:St} {H:Hp} {s:Shared} {fp:List Addr} (I:Inv X pins σ H s) (hf:∀b∈fp,yz X pins H b) (ho:∀b∈fp,∃o,s.heap.get? b=some o/\∀v,o.data≠ .cell v):Inv X (pins++jw fp s.heap) σ H s:=
 I.pins_of fun p hp=>(A0.mp hp).elim (fun z=>I.pin p (Au _ z)) fun z=>by
  obtain⟨hb,e⟩:=LH z;obtain⟨f0,f1,f2,_⟩:=hf p.1 hb;obtain⟨o,e',d⟩:=ho p.1 hb;rw[e]at e';cases e';exact⟨e,f0,f1,f2,d⟩
def Inv.unpinned {pins pl:AL} {σ:St} {H:Hp} {s:Shared} (I:Inv X (pins++pl) σ H s):Inv X pins σ H s:=I.pins_of fun p hp=>I.pin p (Au _ (Cy _ hp))
def LI {iter:Expr} {body:List Stmt} {wi:TI} {g:TG} {tb:TS} {pos:Pos} (hp:PassesOwn (model X.prog X.w) X.A X.env X.xe) (hc:X.calm=true) (hi:PI X tg iter wi) (hg:PG X tg g) (hb:yB X body tb)
  (hs:∀x,foldedSetIterable iter X.env x=pure x:=by intro _;rfl):PS X (.For tg iter body [] pos) (tFor wi g tb):=by
 intro pins s σ H D I h
 refine wpAny_For (zp (hi pins s σ H _ I h) fun v s1 h1=>zp h1 fun itv s2 h2=>?_) hs
 obtain⟨it,fp,tn,J,H2,e,I2,T,st2,f2,W,⟨m0,w0⟩,turn⟩:=h2;subst e;have stat:∀{H':Hp},(∀b∈fp,H' b=none)->∀b∈fp,yz X pins H' b:=fun hn b hb=>⟨hn b hb,(f2 b hb).2⟩
 refine codeAny_forLoop_any (fun n s'=> ∃i σ' H',Inv X pins σ' H' s'/\tn i s'.heap/\(∀b∈fp,H' b=none)/\W i n σ' H') ?_ m0 ⟨0,σ,H2,I2,st2,fun b hb=>(f2 b hb).1,w0⟩
 rintro n s3 ⟨i,σ3,H3,I3,st3,fr3,w3⟩
 rcases turn i n σ3 H3 w3 with ⟨stop,qn⟩|⟨go,N,hN,step⟩
 .refine C1 hp (zp (T.done X rfl rfl rfl hc i pins s3 σ3 H3 X.xe I3 (stat fr3) st3 stop) fun r s4 ⟨hr,I4⟩=>?_)
  subst hr;exact wpAny_execs_nil ⟨σ3,H3,I4,qn⟩
 .refine C1 hp (zp (T.item X rfl rfl rfl hc i pins s3 σ3 H3 X.xe I3 (stat fr3) st3 go) fun r s4 ⟨u,hr,h4⟩=>?_)
  subst hr
  refine C1 hp (zp h4 fun _ s5 ⟨x,H5,I5,r5,y5,st5,fr5⟩=>?_)
  have I5':=I5.pinned (stat fr5) (T.obj _ _ st5)
  refine C1 hp (zp (hg _ s5 σ3 H5 x u _ I5' r5 (step x H5 y5)) fun _ s6 ⟨σ6,H6,I6,q6⟩=>?_)
  refine C1 hp (zp (hb _ s6 σ6 H6 _ I6 q6) fun f s7 q7=>?_)
  have again:∀{σ7:St} {H7:Hp},Inv X (pins++jw fp s5.heap) σ7 H7 s7->N σ7 H7->∃m,m<n/\∃i σ' H',Inv X pins σ' H' s7/\tn i s7.heap/\(∀b∈fp,H' b=none)/\W i m σ' H':=fun {σ7 H7} I7 n7=>by
   obtain⟨m',hm,w7⟩:=hN σ7 H7 n7
   refine⟨m',hm,i+1,σ7,H7,I7.unpinned,T.keep _ _ _ st5 fun b hb o e=>(I7.pin (b,o) (Au _ (Au _ (CH hb e)))).1,fun b hb=>?_,w7⟩
   obtain⟨o,e,d⟩:=T.obj _ _ st5 b hb;exact (I7.pin (b,o) (Au _ (Au _ (CH hb e)))).2.1
  cases f with
  |next=>obtain⟨σ7,H7,I7,n7⟩:=q7;exact again I7 n7
  |cont=>obtain⟨σ7,H7,I7,n7⟩:=q7;exact again I7 n7
  |brk=>obtain⟨σ7,H7,I7,q7⟩:=q7;exact⟨σ7,H7,I7.unpinned,q7⟩
  |ret v=>obtain⟨x7,σ7,H7,I7,r7,q7⟩:=q7;exact⟨x7,σ7,H7,I7.unpinned,r7,q7⟩
end
abbrev R2:=V->V->Hp->VK->Prop
def OpR (X:Cx) (f:Value->Value->Sem Value) (r:R2):Prop:=
 ∀(pins:AL) (s:Shared) (σ:St) (H:Hp) (x y:V) (v u:Value) (Q:VK),Inv X pins σ H s->RelV x v->RelV y u->r x y H Q->
  wpAny (model X.prog X.w) X.A (f v u) (EP X pins σ Q) X.xe s
def UnR (X:Cx) (f:Value->Sem Value) (r:V->Hp->VK->Prop):Prop:=
 ∀(pins:AL) (s:Shared) (σ:St) (H:Hp) (x:V) (v:Value) (Q:VK),Inv X pins σ H s->RelV x v->r x H Q->
  wpAny (model X.prog X.w) X.A (f v) (EP X pins σ Q) X.xe s
def yM (X:Cx) (f:Value) (r:List V->Hp->VK->Prop):Prop:=
 ∀(pins:AL) (s:Shared) (σ:St) (H:Hp) (xs:List V) (us:List Value) (Q:VK),Inv X pins σ H s->Vals xs us->r xs H Q->
  wpAny (model X.prog X.w) X.A (call f us) (EP X pins σ Q) X.xe s
def tOp (r:R2) (ta tb:TE):TE:=fun σ H Q=>ta σ H fun x H1=>tb σ H1 fun y H2=>r x y H2 Q
def tUn (r:V->Hp->VK->Prop) (ta:TE):TE:=fun σ H Q=>ta σ H fun x H1=>r x H1 Q
def rI (C:Int->Int->Prop) (g:Int->Int->V):R2:=fun x y H Q=> ∃i j,x=.int i/\y=.int j/\C i j/\Q (g i j) H
def qz (g:Int->Int->V):R2:=fun x y H Q=> ∃i j,x=.int i/\y=.int j/\Q (g i j) H
def rU (g:Int->V):V->Hp->VK->Prop:=fun x H Q=> ∃i,x=.int i/\Q (g i) H
section
variable {X:Cx} {a b c:Expr} {ta tb tc:TE} {pos:Pos}
def binT (ha:PE X a ta) (hb:PE X b tb) {pins:AL} {s:Shared} {σ:St} {H:Hp} {R:V->V->Hp->Prop} (I:Inv X pins σ H s)
  (h:ta σ H fun x H1=>tb σ H1 fun y H2=>R x y H2) {Q:VP} {f:Value->Value->Sem Value}
  (hf:∀v u s2 x y H2,Inv X pins σ H2 s2->RelV x v->RelV y u->R x y H2->wpAny (model X.prog X.w) X.A (f v u) Q X.xe s2):
  wpAny (model X.prog X.w) X.A (eval a X.env) (fun v s₁=>wpAny (model X.prog X.w) X.A (eval b X.env) (fun u s₂=>wpAny (model X.prog X.w) X.A (f v u) Q X.xe s₂) X.xe s₁) X.xe s:=by
 refine zp (ha pins s σ H _ I h) fun v s1 ⟨x,H1,I1,r1,q1⟩=>?_
 refine zp (hb pins s1 σ H1 _ I1 q1) fun u s2 ⟨y,H2,I2,r2,q2⟩=>?_
 exact hf v u s2 x y H2 I2 r1 r2 q2
def LJ {op:Operator} {r:R2} (ho:OpR X (binaryOp op) r) (ha:PE X a ta) (hb:PE X b tb):PE X (.BinOp a op b pos) (tOp r ta tb):=by
 intro pins s σ H Q I h;exact wpAny_BinOp (binT ha hb I h fun v u s2 x y H2 I2 rx ry q=>ho pins s2 σ H2 x y v u Q I2 rx ry q)
def LK {op:UnaryOp} {r:V->Hp->VK->Prop} (ho:UnR X (unaryOp op) r) (ha:PE X a ta):PE X (.UnaryOp op a pos) (tUn r ta):=by
 intro pins s σ H Q I h;exact UnaryOp_ (zp (ha pins s σ H _ I h) fun v s1 ⟨x,H1,I1,r1,q1⟩=>ho pins s1 σ H1 x v Q I1 r1 q1)
def opI {f:Value->Value->Sem Value} {C:Int->Int->Prop} {g:Int->Int->Int}
  (rule:∀(i j:Int) (t u:Tok) (s:Shared) (Q:VP) (E:VP),C i j->Q (.int (g i j) s.toks) {s with toks:=s.toks+1}->wpAny (model X.prog X.w) X.A (f (.int i t) (.int j u)) Q E s):
  OpR X f (rI C fun i j=>.int (g i j)):=by
 intro pins s σ H x y v u Q I rx ry h;obtain⟨i,j,rfl,rfl,hc,q⟩:=h;obtain⟨t,rfl⟩:=rx;obtain⟨t',rfl⟩:=ry;exact rule i j t t' s _ _ hc ⟨.int (g i j),H,I.tok _,⟨_,rfl⟩,q⟩
def opI0 {f:Value->Value->Sem Value} {g:Int->Int->Int}
  (rule:∀(i j:Int) (t u:Tok) (s:Shared) (Q:VP) (E:VP),Q (.int (g i j) s.toks) {s with toks:=s.toks+1}->wpAny (model X.prog X.w) X.A (f (.int i t) (.int j u)) Q E s):
  OpR X f (qz fun i j=>.int (g i j)):=by
 intro pins s σ H x y v u Q I rx ry h;obtain⟨i,j,rfl,rfl,q⟩:=h;obtain⟨t,rfl⟩:=rx;obtain⟨t',rfl⟩:=ry;exact rule i j t t' s _ _ ⟨.int (g i j),H,I.tok _,⟨_,rfl⟩,q⟩
def opB0 {f:Value->Value->Sem Value} {g:Int->Int->Bool}
  (rule:∀(i j:Int) (t u:Tok) (s:Shared) (Q:VP) (E:VP),Q (.bool (g i j)) s->wpAny (model X.prog X.w) X.A (f (.int i t) (.int j u)) Q E s):
  OpR X f (qz fun i j=>.bl (g i j)):=by
 intro pins s σ H x y v u Q I rx ry h;obtain⟨i,j,rfl,rfl,q⟩:=h;obtain⟨t,rfl⟩:=rx;obtain⟨t',rfl⟩:=ry;exact rule i j t t' s _ _ ⟨.bl (g i j),H,I,rfl,q⟩
def CDiv (i j:Int):Prop:=0<j/\j<1073741824
def CPow (i j:Int):Prop:=0<=j/\j<=1000000/\i.natAbs<2 ^ 64
def CMul (i j:Int):Prop:=(-(2 ^ 64)<i/\i<2 ^ 64)\/(-(2 ^ 64)<j/\j<2 ^ 64)
def CMul.ok {i j:Int} (h:CMul i j):IntMulOk i j:=by
 rcases h with ⟨h1,h2⟩|⟨h1,h2⟩
 .exact .of_left (intBits_le_64 h1 h2)
 .exact .of_right (intBits_le_64 h1 h2)
def op_add:OpR X (binaryOp .Add) (qz fun i j=>.int (i+j)):=opI0 fun _ _ _ _ _ _ _ q=>add_int q
def LL:OpR X (binaryOp .Sub) (qz fun i j=>.int (i-j)):=opI0 fun _ _ _ _ _ _ _ q=>sub_int q
def op_mul:OpR X (binaryOp .Mult) (rI CMul fun i j=>.int (i*j)):=opI fun _ _ _ _ _ _ _ hc q=>mul_int q hc.ok
def qG:OpR X (binaryOp .FloorDiv) (rI CDiv fun i j=>.int (i / j)):=opI fun i j _ _ _ _ _ hc q=>by
 have h1:(0:Int)<j:=hc.1;have h2:j<1073741824:=hc.2;exact floordiv_int (by lia) (by rw[Int.fdiv_eq_ediv_of_nonneg i (by lia)];exact q) (.inl (PyProof.noPylong_small (by lia)))
def ym:OpR X (binaryOp .Mod) (rI (fun _ j=>0<j) fun i j=>.int (i%j)):=opI fun i j _ _ _ _ _ hc q=>by
 have h1:(0:Int)<j:=hc;exact mod_int' (by lia) (by rw[Int.fmod_eq_emod_of_nonneg i (by lia)];exact q)
def EB:OpR X (binaryOp .Pow) (rI CPow fun i j=>.int (i ^ j.toNat)):=opI fun _ _ _ _ _ _ _ hc q=>pow_int_small hc.1 hc.2.1 hc.2.2 q
def unI {f:Value->Sem Value} {g:Int->Int}
  (rule:∀(i:Int) (t:Tok) (s:Shared) (Q:VP) (E:VP),Q (.int (g i) s.toks) {s with toks:=s.toks+1}->wpAny (model X.prog X.w) X.A (f (.int i t)) Q E s):
  UnR X f (rU fun i=>.int (g i)):=by
 intro pins s σ H x v Q I rx h;obtain⟨i,rfl,q⟩:=h;obtain⟨t,rfl⟩:=rx;exact rule i t s _ _ ⟨.int (g i),H,I.tok _,⟨_,rfl⟩,q⟩
def LM:UnR X (unaryOp .USub) (rU fun i=>.int (-i)):=unI fun _ _ _ _ _ q=>neg_int q
end
section
variable {X:Cx} {a b c:Expr} {ta tb tc:TE} {pos:Pos}
def GF {pins:AL} {σ:St} {H:Hp} {s:Shared} {Q:VK} {k k':Bool} (I:Inv X pins σ H s) (q:Q (.bl k) H) (e:k=k'):EP X pins σ Q (.bool k') s:=by
 subst e;exact⟨.bl k,H,I,rfl,q⟩
def FC:OpR X (compareOp .Lt) (qz fun i j=>.bl (decide (i<j))):=opB0 fun _ _ _ _ _ _ _ q=>lt_int q
def EC:OpR X (compareOp .LtE) (qz fun i j=>.bl (decide (i<=j))):=opB0 fun _ _ _ _ _ _ _ q=>le_int q
def DP:OpR X (compareOp .Gt) (qz fun i j=>.bl (decide (j<i))):=opB0 fun _ _ _ _ _ _ _ q=>gt_int q
def GG:OpR X (compareOp .In) (fun x y H Q=> ∃i j,x=.str i/\y=.str j/\Q (.bl (!(Builtin.Str.occurrences j i 0 j.length 1).isEmpty)) H):=by
 intro pins s σ H x y v u Q I rx ry h;obtain⟨i,j,rfl,rfl,q⟩:=h;obtain⟨t,rfl⟩:=rx;obtain⟨t',rfl⟩:=ry;exact in_str (GF I q rfl)
def Iq:OpR X (compareOp .Is) (fun x y H Q=>y=.non/\Q (.bl (decide (x=.non))) H):=by
 intro pins s σ H x y v u Q I rx ry h;obtain⟨rfl,q⟩:=h;cases ry
 refine is_none_gen (GF I q ?_)
 cases x<;>first
  | (cases rx;rfl)
  | (obtain⟨t,rfl⟩:=rx;rfl)
def GH:OpR X (compareOp .NotIn) (fun x y H Q=> ∃i j,x=.str i/\y=.str j/\Q (.bl (!(!(Builtin.Str.occurrences j i 0 j.length 1).isEmpty))) H):=by
 intro pins s σ H x y v u Q I rx ry h;obtain⟨i,j,rfl,rfl,q⟩:=h;obtain⟨t,rfl⟩:=rx;obtain⟨t',rfl⟩:=ry;exact notIn_str (GF I q rfl)
def OpR.or {f:Value->Value->Sem Value} {r r':R2} (h:OpR X f r) (h':OpR X f r'):OpR X f (fun x y H Q=>r x y H Q\/r' x y H Q):=by
 intro pins s σ H x y v u Q I rx ry q
 rcases q with q|q
 .exact h pins s σ H x y v u Q I rx ry q
 .exact h' pins s σ H x y v u Q I rx ry q
def zL (b:Expr) {op:CmpOp} (h:op≠ .In:=by decide) (h2:op≠ .NotIn:=by decide):behindInMarks op b=false:=by
 have e1:(op==CmpOp.In)=false:=by cases op<;>first|rfl|exact absurd rfl h
 have e2:(op==CmpOp.NotIn)=false:=by cases op<;>first|rfl|exact absurd rfl h2
 cases b<;>simp[behindInMarks,e1,e2]
def LN {op:CmpOp} {r:R2} (ho:OpR X (compareOp op) r) (ha:PE X a ta) (hb:PE X b tb) (hm:behindInMarks op b=false):PE X (.Compare a [op] [b] pos) (tOp r ta tb):=by
 intro pins s σ H Q I h;exact wpAny_Compare1 (binT ha hb I h fun v u s2 x y H2 I2 rx ry q=>ho pins s2 σ H2 x y v u Q I2 rx ry q) hm
def Ir (t:TE):TT:=fun σ H Q=>t σ H fun x H'=> ∃k,x=.bl k/\Q k H'
def LO {op:CmpOp} {r:R2} (ho:OpR X (compareOp op) r) (ha:PE X a ta) (hb:PE X b tb) (hm:behindInMarks op b=false):PT X (.Compare a [op] [b] pos) (Ir (tOp r ta tb)):=by
 intro pins s σ H Q I h
 refine wpAny_isTrue_Compare1 (zp (ha pins s σ H _ I h) fun v s1 ⟨x,H1,I1,r1,q1⟩=>zp (hb pins s1 σ H1 _ I1 q1) fun u s2 ⟨y,H2,I2,r2,q2⟩=>
  zp (ho pins s2 σ H2 x y v u _ I2 r1 r2 q2) fun c s3 ⟨z,H3,I3,r3,k,e,q3⟩=>?_) hm
 subst e;cases r3;exact By ⟨H3,I3,q3⟩
def Iu (r r':R2) (ta tb tc:TE):TE:=fun σ H Q=>ta σ H fun x H1=>tb σ H1 fun y H2=>r x y H2 fun z H3=> ∃k,z=.bl k/\
 (if k=true then tc σ H3 fun w' H4=>r' y w' H4 Q else Q (.bl false) H3)
def LP {op op':CmpOp} {r r':R2} (ho:OpR X (compareOp op) r) (ho':OpR X (compareOp op') r') (ha:PE X a ta) (hb:PE X b tb) (hc:PE X c tc)
  (hm:lastMarks [op,op'] [b,c]=false:=by with_unfolding_all rfl):PT X (.Compare a [op,op'] [b,c] pos) (Ir (Iu r r' ta tb tc)):=by
 intro pins s σ H Q I h
 refine isTrue_chain (zp (ha pins s σ H _ I h) fun v s1 ⟨x,H1,I1,r1,q1⟩=>test_link (zp (hb pins s1 σ H1 _ I1 q1) fun u s2 ⟨y,H2,I2,r2,q2⟩=>
  zp (ho pins s2 σ H2 x y v u _ I2 r1 r2 q2) fun d s3 ⟨z,H3,I3,r3,k,e,q3⟩=>?_)) hm
 subst e;cases r3
 refine By ?_
 cases k with
 |false=>
  obtain⟨k',e',q'⟩:=q3;cases e';exact ite_ff ⟨H3,I3,q'⟩
 |true=>
  refine ite_tt (test_last (zp (hc pins s3 σ H3 _ I3 q3) fun w' s4 ⟨z',H4,I4,r4,q4⟩=>zp (ho' pins s4 σ H4 y z' u w' _ I4 r2 r4 q4) fun d' s5 ⟨z2,H5,I5,r5,k2,e2,q5⟩=>?_))
  subst e2;cases r5;exact By ⟨H5,I5,q5⟩
def ED:(sizeLine:Nat)<2 ^ 63:=by rw[sizeLine_eq];decide
def op_add_str:OpR X (binaryOp .Add) (fun x y H Q=> ∃i j,x=.str i/\y=.str j/\i.length+j.length<=sizeLine/\Q (.str (i++j)) H):=by
 intro pins s σ H x y v u Q I rx ry h;obtain⟨i,j,rfl,rfl,hz,q⟩:=h;obtain⟨t,rfl⟩:=rx;obtain⟨t',rfl⟩:=ry;exact add_str (fun t' tk=>⟨.str (i++j),H,I.tok _,⟨_,rfl⟩,q⟩) hz
def qP {x:V} {us:List Value} (r:Vals [x] us):∃u,us=[u]/\RelV x u:=by
 cases r with
 |cons r1 r2=>cases r2;exact⟨_,rfl,r1⟩
def EE {x y:V} {us:List Value} (r:Vals [x,y] us):∃u w',us=[u,w']/\RelV x u/\RelV y w':=by
 cases r with
 |cons r1 r2=>
  cases r2 with
  |cons r3 r4=>cases r4;exact⟨_,_,rfl,r1,r3⟩
def LQ (hc:X.calm=true):yM X (.builtin "max") (fun xs H Q=> ∃i j,xs=[.int i,.int j]/\Q (.int (if j > i then j else i)) H):=by
 intro pins s σ H xs us Q I r h;obtain⟨i,j,rfl,q⟩:=h;obtain⟨u,w',rfl,⟨t,rfl⟩,⟨t',rfl⟩⟩:=EE r
 refine max_two_ints (I.ok.hd hc) fun h' tk k=>⟨_,H,I.kept k,?_,q⟩
 by_cases hj:j > i
 .rw[Aa hj,Aa hj];exact⟨_,rfl⟩
 .rw[Ab hj,Ab hj];exact⟨_,rfl⟩
def LR (hc:X.calm=true):yM X (.builtin "min") (fun xs H Q=> ∃i j,xs=[.int i,.int j]/\Q (.int (if j<i then j else i)) H):=by
 intro pins s σ H xs us Q I r h;obtain⟨i,j,rfl,q⟩:=h;obtain⟨u,w',rfl,⟨t,rfl⟩,⟨t',rfl⟩⟩:=EE r
 refine min_two_ints (I.ok.hd hc) fun h' tk k=>⟨_,H,I.kept k,?_,q⟩
 by_cases hj:j<i
 .rw[Aa hj,Aa hj];exact⟨_,rfl⟩
 .rw[Ab hj,Ab hj];exact⟨_,rfl⟩
def Iv:yM X (.type "int") (fun xs H Q=>(∃i,xs=[.int i]/\Q (.int i) H)\/∃k,xs=[.bl k]/\Q (.int (if k then 1 else 0)) H):=by
 intro pins s σ H xs us Q I r h
 rcases h with ⟨i,rfl,q⟩|⟨k,rfl,q⟩
 .obtain⟨u,rfl,t,rfl⟩:=qP r
  exact call_int_int ⟨.int i,H,I,⟨_,rfl⟩,q⟩
 .obtain⟨u,rfl,r1⟩:=qP r
  cases r1;exact call_int_bool ⟨.int (if k then 1 else 0),H,I.tok _,⟨_,rfl⟩,q⟩
def LS:yM X (.type "str") (fun xs H Q=> ∃i,xs=[.int i]/\i.natAbs.log2<1920/\Q (.str (toString i)) H):=by
 intro pins s σ H xs us Q I r h;obtain⟨i,rfl,hz,q⟩:=h;obtain⟨u,rfl,t,rfl⟩:=qP r;exact PySem.P.str_of_int hz ⟨.str _,H,I.tok _,⟨_,rfl⟩,q⟩
def LenV (K:FG) (x:V) (H:Hp) (n:Nat):Prop:=
 match x with
 |.str y=>y.length<=sizeLine/\n=y.length
 |.byt y=>y.size<=sizeLine/\n=y.size
 |.ref p=>(∃xs,SqL K H p xs/\n=xs.length)\/∃xs,SqT K H p xs/\n=xs.length
 |_=>False
def LU:yM X (.builtin "len") (fun xs H Q=> ∃x n,xs=[x]/\LenV X.K x H n/\Q (.int n) H):=by
 intro pins s σ H xs us Q I r h;obtain⟨x,n,rfl,e,q⟩:=h;obtain⟨u,rfl,rx⟩:=qP r;have hl:=ED;have hs:sizeLine=16777216:=sizeLine_eq;cases x with
 |str y=>
  obtain⟨t,rfl⟩:=rx;obtain⟨hy,e'⟩:y.length<=sizeLine/\n=y.length:=e;subst e';exact len_str (by lia) ⟨.int _,H,I.tok _,⟨_,rfl⟩,q⟩
 |byt y=>
  obtain⟨t,rfl⟩:=rx;obtain⟨hy,e'⟩:y.size<=sizeLine/\n=y.size:=e;subst e';exact PySem.W.len_bytes (by lia) ⟨.int _,H,I.tok _,⟨_,rfl⟩,q⟩
 |ref p=>
  cases rx;have e':(∃xs,SqL X.K H p xs/\n=xs.length)\/∃xs,SqT X.K H p xs/\n=xs.length:=e
  rcases e' with ⟨xs,hx,e'⟩|⟨xs,hx,e'⟩
  .subst e'
   obtain⟨its,r',pl,hz⟩:=I.list hx;have hlen:=r'.length;exact Calls.call_len_list pl.isList (by simp only[Ak];lia) ⟨.int xs.length,H,I.tok _,⟨_,by simp only[Ak];rw[hlen]⟩,q⟩
  .subst e'
   obtain⟨its,r',pl,hz⟩:=I.tuple hx;have hlen:=r'.length;exact len_tuple pl (by simp only[Ak];lia) ⟨.int xs.length,H,I.tok _,⟨_,by simp only[Ak];rw[hlen]⟩,q⟩
 |_=>exact (show False from e).elim
end
structure ObjM (h:Heap) (x dx C:Addr) (mA:Str->Option Value):Prop where
 obj:h.get? x=some (PySem.W.instObj C dx)
 ns:h.Ns1 dx mA
 ne:dx≠x
def LV {h:Heap} {dx:Addr} {mA:Str->Option Value} (n:h.Ns1 dx mA):∃od,h.get? dx=some od/\∀name,PySem.W.lookIn name od=some (mA name):=by
 obtain⟨o,es,ep,ho,hd,hk,_,hm⟩:=n
 refine⟨o,ho,fun name=>?_⟩
 have e:=hm name;unfold nsFind findBy at e;rw[<-Array.find?_toList]at e
 unfold PySem.W.lookIn;rw[hd];dsimp only
 split
 .rename_i y q
  rw[q]at e;exact congrArg some e
 .rename_i q
  rw[q]at e;have a:es.toList.any (·.refKey)=false:=by
   rw[List.any_eq_false];intro y hy;obtain⟨z,t,hkey⟩:=hk y (Array.mem_toList_iff.mp hy);simp[DictEntry.refKey,hkey]
  have a': ¬es.toList.any (·.refKey)=true:=by rw[a];exact Ao
  rw[Ab a'];exact congrArg some e
def ObjM.look {h:Heap} {x dx C:Addr} {mA:Str->Option Value} (I:ObjM h x dx C mA):∃od,PySem.W.InstAt h x (PySem.W.instObj C dx) C (some od)/\∀name,PySem.W.lookIn name od=some (mA name):=
 let ⟨od,ho,hl⟩:=LV I.ns
 ⟨od,⟨I.obj,rfl,rfl,ho⟩,hl⟩
section
variable {P:Program} {w:World} {H H':Hp} {h h':Heap} {a C dx:Addr} {fs fs':List (Str×V)}
def LW (hok:HOk P w H h) (e:H a=some (.ins C dx fs)):∃mA,ObjM h a dx C mA/\(∀f,RelO (fs.lookup f) (mA f))/\PySem.Within mA (fs.map (·.1))/\fs.length<=1000/\H dx=some (.own a):=by
 obtain⟨d,z,ne,ob,mA,n,r,q⟩:=(show ObjOk P w H h a (.ins C dx fs) from hok a _ e)
 exact⟨mA,⟨ob,n,ne⟩,r,q,z,d⟩
end
structure Cls (K:FG) (C:Addr):Prop where
 pg:PySem.W.plainGet K C Str.empty=true
 hd:PySem.W.hasDictIn K C=true
 po:PySem.W.plainOver K C=true
 sa:PySem.W.findIn K (.ref C) "__setattr__" =some (some (.builtin "object.__setattr__"))
def Cls.get {K:FG} {C:Addr} (c:Cls K C) (f:Str):PySem.W.plainGet K C f=true:=c.pg
section
variable {X:Cx} {pins:AL} {σ:St} {H:Hp} {s:Shared} {A:Around} {E:VP} {Q:VP} {c:Value} {b:Bool}
inductive TyOf (K:FG) (H:Hp):V->Value->Prop where
 |non:TyOf K H .non (.type "NoneType")
 |bl (x:Bool):TyOf K H (.bl x) (.type "bool")
 |int (i:Int):TyOf K H (.int i) (.type "int")
 |str (x:Str):TyOf K H (.str x) (.type "str")
 |flt (x:UInt64):TyOf K H (.flt x) (.type "float")
 |lst {a:Addr} {xs:List V} (e:H a=some (.lst xs)):TyOf K H (.ref a) (.type "list")
 |frz {a:Addr} {o:Obj} {xs:List V} (e:H a=some (.frz o (.lst xs))):TyOf K H (.ref a) (.type "list")
 |tup {a:Addr} {xs:List V} (e:H a=some (.tup xs)):TyOf K H (.ref a) (.type "tuple")
 |dK {a:Addr} {kvs:List (yY×V)} (e:H a=some (.dK kvs)):TyOf K H (.ref a) (.type "dict")
 |dT {a:Addr} {kvs:List (MK×V)} (e:H a=some (.dT kvs)):TyOf K H (.ref a) (.type "dict")
 |ins {a C dx:Addr} {fs:List (Str×V)} (e:H a=some (.ins C dx fs)) (cl:Cls K C) (ha:PySem.W.findIn K (.ref C) "__class__" =some (some (.builtin "object.__class__")))
  (hn:PySem.W.specialIn K (.builtin "object.__class__") "__get__" =some (some (.builtin "getset_descriptor.__get__"))) (htk:PySem.W.takesIn K (.builtin "object.__class__")=some true)
  (hm:PySem.W.mroIn K C (.type "object")=some true):TyOf K H (.ref a) (.ref C)
def LX {x:V} {u t:Value} (I:Inv X pins σ H s) (rx:RelV x u) (ty:TyOf X.K H x t) (e:PySem.W.kitOne X.K t c=some b) (h:∀tk,Q (.bool b) {s with toks:=tk}):
  wpAny (model X.prog X.w) A (call (.builtin "isinstance") [u,c]) Q E s:=by
 cases ty with
 |non=>cases (show u=Value.none from rx);exact Bj PySem.W.kitx_none I.kIn True.intro e (fun z=>nomatch z) h
 |bl y=>cases (show u=Value.bool y from rx);exact Bj PySem.W.kitx_bool I.kIn True.intro e (fun z=>nomatch z) h
 |int i=>obtain⟨t,q⟩:=(show ∃t,u=Value.int i t from rx);cases q;exact Bj PySem.W.kitx_int I.kIn True.intro e (fun z=>nomatch z) h
 |str y=>obtain⟨t,q⟩:=(show ∃t,u=Value.str y t from rx);cases q;exact Bj PySem.W.kitx_str I.kIn True.intro e (fun z=>nomatch z) h
 |flt y=>obtain⟨t,q⟩:=(show ∃t,u=Value.float y t from rx);cases q;exact Bj PySem.W.kitx_float I.kIn True.intro e (fun z=>nomatch z) h
 | @lst a xs ea=>
  cases (show u=Value.ref a from rx)
  obtain⟨_,_,n,_,h1⟩:=(show ObjOk X.prog X.w H s.heap a (.lst xs) from I.hok a _ ea)
  exact Bj PySem.W.kitx_list I.kIn ⟨_,h1,rfl⟩ e (fun z=>nomatch z) h
 | @frz a ob xs ea=>
  cases (show u=Value.ref a from rx)
  obtain⟨_,_,_,n,_,h1⟩:=(show ObjOk X.prog X.w H s.heap a (.frz ob (.lst xs)) from I.hok a _ ea)
  exact Bj PySem.W.kitx_list I.kIn ⟨_,h1,rfl⟩ e (fun z=>nomatch z) h
 | @tup a xs ea=>
  cases (show u=Value.ref a from rx)
  obtain⟨_,_,_,p⟩:=(show ObjOk X.prog X.w H s.heap a (.tup xs) from I.hok a _ ea)
  obtain⟨o,h1,h2,_⟩:=p;exact Bj PySem.W.kitx_tuple I.kIn ⟨o,h1,h2⟩ e (fun z=>nomatch z) h
 | @dK a kvs ea=>
  cases (show u=Value.ref a from rx)
  obtain⟨_,_,vs,_,p⟩:=(show ObjOk X.prog X.w H s.heap a (.dK kvs) from I.hok a _ ea)
  obtain⟨o,es,ep,h1,h2,_⟩:=p;exact Bj PySem.W.kitx_dict I.kIn ⟨o,h1,h2.1⟩ e (fun z=>nomatch z) h
 | @dT a kvs ea=>
  cases (show u=Value.ref a from rx)
  obtain⟨_,_,xs,_,o,es,ep,h1,h2,_⟩:=(show ObjOk X.prog X.w H s.heap a (.dT kvs) from I.hok a _ ea)
  exact Bj PySem.W.kitx_dict I.kIn ⟨o,h1,h2.1⟩ e (fun z=>nomatch z) h
 | @ins a C dx fs ea cl ha hn htk hm=>
  cases (show u=Value.ref a from rx)
  obtain⟨mA,O,_⟩:=LW I.hok ea;obtain⟨od,J,_⟩:=O.look;exact Bj (PySem.W.kitx_own (cl.get _) cl.hd ha hn htk hm) I.kIn J e (fun z=>nomatch z) h
end
structure Room (k:Nat) (A:Around):Prop where
 hd:A.handled=none
 dp:A.depth+3*k+5<recursionLimit
 un:A.units+16*k+200<cLine
def Room.mono {j k:Nat} {A:Around} (r:Room k A) (h:j<=k):Room j A:=⟨r.hd,by have:=r.dp;lia,by have:=r.un;lia⟩
theorem Room.deeper {k:Nat} {A:Around} (r:Room (k+1) A) (env:Env):Room k (A.deeper env):=
 ⟨r.hd,by have:=r.dp;show A.depth+1+3*k+5<_;lia,by have:=r.un;show A.units+3+16*k+200<_;lia⟩
theorem Room.depth {k:Nat} {A:Around} (r:Room k A):A.depth<recursionLimit:=by have:=r.dp;lia
theorem Room.units {k:Nat} {A:Around} (r:Room k A):A.units+64<cLine:=by have:=r.un;lia
def tNil:TA:=fun _ H Q=>Q [] H
def LY (ta:TE) (tr:TA):TA:=fun σ H Q=>ta σ H fun x H1=>tr σ H1 fun xs H2=>Q (x::xs) H2
section
variable {X:Cx} {e:Expr} {es:List Expr} {te:TE} {t:TA} {pos:Pos}
def LZ:PA X [] tNil:=fun _ _ _ _ H Q I h=>Calls.spliced_nil ⟨[],H,I,.nil,h⟩
def Ma (ha:PE X e te) (hr:PA X es t) (hs:SE X e es:=by rfl):PA X (e::es) (LY te t):=by
 intro pos pins s σ H Q I h;rw[hs];show wpAny _ _ (spliced ((false,eval e X.env)::backTo pos (starEach es X.env))) _ _ s
 refine Calls.spliced_cons (zp (ha pins s σ H _ I h) fun u s1 ⟨x,H1,I1,r1,q1⟩=>?_)
 exact zp (hr pos pins s1 σ H1 _ I1 q1) fun us s2 ⟨xs,H2,I2,r2,q2⟩=>⟨x::xs,H2,I2,.cons r1 r2,q2⟩
def tTup (t:TA):TE:=fun σ H Q=>t σ H fun xs H1=>xs.length<=sizeLine/\∀p,H1 p=none->Q (.ref p) (zl H1 p (.tup xs))
def tLst (t:TA):TE:=fun σ H Q=>t σ H fun xs H1=>xs.length<=sizeLine/\∀p,H1 p=none->Q (.ref p) (zl H1 p (.lst xs))
def Mb {x1} (h:PA X es t):PE X (.Tuple es x1 pos) (tTup t):=by
 intro pins s σ H Q I hq
 refine wpAny_Tuple_spliced (zp (h pos pins s σ H _ I hq) fun us s1 ⟨xs,H1,I1,r,z,q⟩=>⟨by rw[<-r.length];exact z,?_⟩)
 have hf:H1 s1.heap.objs.size=none:=I1.hok.fresh (Af _)
 refine⟨.ref s1.heap.objs.size,zl H1 s1.heap.objs.size (.tup xs),I1.laid (t':=s1.toks) (fun b u e=>Aq _ e) (Af _) ?_,rfl,q _ hf⟩
 exact⟨z,us,r,⟨_,A1 _ rfl,rfl,_,rfl⟩⟩
def Mc (h:PA X es t):PE X (.List es pos) (tLst t):=by
 intro pins s σ H Q I hq
 refine wpAny_List_spliced (zp (h pos pins s σ H _ I hq) fun us s1 ⟨xs,H1,I1,r,z,q⟩=>⟨by rw[<-r.length];exact z,?_⟩)
 have hf:H1 s1.heap.objs.size=none:=I1.hok.fresh (Af _)
 refine⟨.ref s1.heap.objs.size,zl H1 s1.heap.objs.size (.lst xs),I1.laid (t':=s1.toks) (fun b u e=>Aq _ e) (Af _) ?_,rfl,q _ hf⟩
 exact⟨z,us,0,r,A1 _ rfl⟩
end
abbrev Sp:=List V->Hp->VK->XK->Prop
abbrev qV:=List Env->Hp->Shared->XK->VP
structure Env0 (P:Program) (w:World) (K:FG) (mg:Str->Option Value) (base:Heap) (A:Around) (outer:List Env) (s:Shared) (H:Hp):Prop where
 frames:A.frames=some outer
 mod:Mod K mg base
 bs:∀b o,base.get? b=some o->s.heap.get? b=some o/\H b=none
 bsz:base.objs.size<=s.heap.objs.size
 funs:s.heap.FunFrames base outer
 frf:∀b∈zS outer,H b=none
 hok:HOk P w H s.heap
 bare:AllBare s.gens
def CE (outer:List Env) (P:Program) (w:World) (H:Hp) (s:Shared) (Q:VK) (u:Value) (s':Shared):Prop:=
 ∃v H',s'.os=s.os/\AllBare s'.gens/\Un (zS outer) [] H H' s.heap s'.heap/\HOk P w H' s'.heap/\RelV v u/\Q v H'
def CR (CX:qV) (outer:List Env) (P:Program) (w:World) (H:Hp) (s:Shared) (Q:VK) (E:XK) (r:Result) (s':Shared):Prop:=
 match r with
 |.ok (.ret u)=>CE outer P w H s Q u s'
 |.ok _=>False
 |.error e=>CX outer H s E e s'
structure FnOk (P:Program) (w:World) (K:FG) (mg:Str->Option Value) (base:Heap) (CX:qV) (k:Nat) (f:Addr) (fd:FuncData) (ps:List Str) (sp:Sp):Prop where
 len:∀vs H Q E,sp vs H Q E->vs.length=ps.length
 run:∀(A:Around) (outer:List Env) (s:Shared) (H:Hp) (args:Args) (us:List Value) (vs:List V) (Q:VK) (E:XK),Room k A->Env0 P w K mg base A outer s H->BindsTo s fd args (ps.zip us)->Vals vs us->sp vs H Q E->
  codeAny (model P w) A (.call (.ref f) args) (CR CX outer P w H s Q E) s
def FnOk.imp {P:Program} {w:World} {K:FG} {mg:Str->Option Value} {base:Heap} {CX:qV} {k:Nat} {f:Addr} {fd:FuncData} {ps:List Str} {sp sp':Sp} (F:FnOk P w K mg base CX k f fd ps sp)
  (h:∀vs H Q E,sp' vs H Q E->sp vs H Q E):FnOk P w K mg base CX k f fd ps sp':=
 ⟨fun vs H Q E q=>F.len vs H Q E (h _ _ _ _ q),fun A outer s H args us vs Q E hr he hb hv hs=>F.run A outer s H args us vs Q E hr he hb hv (h _ _ _ _ hs)⟩
section
variable {X:Cx} {pins:AL} {σ:St} {H:Hp} {s s':Shared}
def Inv.env0 (I:Inv X pins σ H s):Env0 X.prog X.w X.K X.mg X.base X.A X.stack s H:=
 ⟨I.ok.frames,I.ok.mod,I.bs,Bc I.ok.bsz I.sz,I.stack,I.stkFree,I.hok,I.bare⟩
def Inv.after {Q:VK} {u:Value} (I:Inv X pins σ H s) (h:CE X.stack X.prog X.w H s Q u s'):EP X pins σ Q u s':=by
 obtain⟨v,H',os,bare,un,hok,r,q⟩:=h;obtain⟨hh,g,d,t,os'⟩:=s';obtain rfl:os'=s.os:=os;exact⟨v,H',I.call (h':=hh) (g':=g) (d':=d) (t':=t) (ch:=[]) un hok bare (fun b z=>absurd z (by simp)),r,q⟩
end
def EF (sp:Sp) (dvs:List V) (E:XK) (t:TA):TE:=fun σ H Q=>t σ H fun vs H1=>sp (vs++dvs) H1 Q E
def Binds (K:FG) (fd:FuncData) (ps:List Str) (ds:List Value):Prop:=
 ∀(s:Shared) (us:List Value),K.In s.heap->(us++ds).length=ps.length->BindsTo s fd ⟨us,[]⟩ (ps.zip (us++ds))
def Binds.all {K:FG} {fd:FuncData} {ps:List Str} (h:∀us:List Value,us.length=ps.length->bindArgs fd ⟨us,[]⟩=pure (ps.zip us)):Binds K fd ps []:=fun s us _ hl=>by
 rw[B1]at hl ⊢;exact .of_eq (h us hl)
def DQ (CX:qV) (X:Cx) (E:XK):Prop:=∀(pins:AL) (σ:St) (H:Hp) (s:Shared) (e:Value) (s':Shared),Inv X pins σ H s->CX X.stack H s E e s'->X.xe e s'
section
variable {X:Cx} {CX:qV} {k:Nat} {f C:Addr} {fd:FuncData} {ps:List Str} {sp:Sp} {dvs:List V} {ds:List Value} {E:XK} {x m:Str} {p pos apos:Pos} {e o:Expr} {es:List Expr} {ta:TE} {t:TA}
def Md {pins:AL} {σ:St} {H:Hp} {s:Shared} {Q:VK} {us:List Value} {vs:List V} (F:FnOk X.prog X.w X.K X.mg X.base CX k f fd ps sp) (hr:Room k X.A) (hb:Binds X.K fd ps ds) (hd:Vals dvs ds) (hx:DQ CX X E)
  (I:Inv X pins σ H s) (r:Vals vs us) (h:sp (vs++dvs) H Q E):wpAny (model X.prog X.w) X.A (call (.ref f) us) (EP X pins σ Q) X.xe s:=by
 have r2:Vals (vs++dvs) (us++ds):=r.append hd;have hl:(us++ds).length=ps.length:=by rw[<-r2.length];exact F.len _ _ _ _ h
 refine wpAny_call (C2 (F.run X.A X.stack s H ⟨us,[]⟩ (us++ds) (vs++dvs) Q E hr I.env0 (hb s us I.kIn hl) r2 h) fun r s' hq=>?_)
 cases r with
 |error e=>exact hx pins σ H s e s' I hq
 |ok fl=>
  cases fl with
  |ret u=>exact I.after hq
  |next=>exact False.elim hq
  |brk=>exact False.elim hq
  |cont=>exact False.elim hq
def Me (F:FnOk X.prog X.w X.K X.mg X.base CX k f fd ps sp) (hr:Room k X.A) (hg:Gl X x) (hm:X.mg x=some (.ref f)) (hk:PySem.W.keepIn X.K (.ref f)=true) (hb:Binds X.K fd ps ds) (hd:Vals dvs ds) (hx:DQ CX X E)
  (ha:PA X (e::es) t) (hdb:(x==("__debug__" :Str))=false:=by decide) (he:SE X e es:=by rfl) (hpl:BA X pos es:=by rfl):
  PE X (.Call (.Name x p) (e::es) [] pos) (EF sp dvs E t):=by
 intro pins s σ H Q I h
 refine Di (DM I hg hm ?_ hdb)
 refine PySem.W.callWith_K (h₀:=X.base) I.ok.mod.kin hk (zp (ha pos pins s σ H _ I h) fun us s1 ⟨vs,H1,I1,r,q⟩=>⟨I1.kIn,?_⟩) he hpl
 exact Md F hr hb hd hx I1 r q
end
structure FnScope (N P:List Str) (sc:Scope):Prop where
 kind:sc.kind=.function
 co:sc.isCoroutine=false
 gen:sc.isGenerator=false
 nd:N.Nodup
 pre:N.take P.length=P
 par:∀x∈P,sc.names.lookup x=some .local\/sc.names.lookup x=some .cell
 nofree:∀y∈sc.names,y.2≠ .free
theorem Iw {kindOf:Str->Option NameKind} {x:Str}:∀{binds:List (Str×Value)} {m:Str->Option Value},(∀v,(x,v)∉binds)->bindL kindOf binds m x=m x
 | [],_,_=>rfl
 | (n,v)::r,m,h=>by
  unfold bindL;rw[Iw fun w hw=>h w (Av _ hw)]
  split
  .have:x≠n:=by rintro rfl;exact h v An
   simp[this]
  .rfl
theorem Iy {kindOf:Str->Option NameKind} {x:Str}:∀{binds:List (Str×Value)} {m:Str->Option Value},(∀v,(x,v)∉binds)->bindC kindOf binds m x=m x
 | [],_,_=>rfl
 | (n,v)::r,m,h=>by
  unfold bindC;rw[Iy fun w hw=>h w (Av _ hw)]
  split
  .rfl
  .have:x≠n:=by rintro rfl;exact h v An
   simp[this]
theorem Iz {kindOf:Str->Option NameKind} {x:Str} {v:Value}:∀{P:List Str} {vs:List Value} {i:Nat} {m:Str->Option Value},P.Nodup->P[i]? =some x->vs[i]? =some v->kindOf x=some .local->
  bindL kindOf (P.zip vs) m x=some v
 | [],_,_,_,_,h,_,_=>by simp at h
 |_::_,[],_,_,_,_,h,_=>by simp at h
 |p::P,w::vs,0,m,nd,h1,h2,hk=>by
  simp at h1 h2;subst h1;subst h2;show bindL kindOf ((p,w)::P.zip vs) m p=_;unfold bindL;rw[Iw fun v hv=>(Bn.mp nd).1 (C4 hv).1,Aa hk]
  simp
 |p::P,w::vs,i+1,m,nd,h1,h2,hk=>by
  show bindL kindOf ((p,w)::P.zip vs) m x=_;unfold bindL;exact Iz (i:=i) (Bn.mp nd).2 (by simpa using h1) (by simpa using h2) hk
theorem I0 {kindOf:Str->Option NameKind} {x:Str} {v:Value}:∀{P:List Str} {vs:List Value} {i:Nat} {m:Str->Option Value},P.Nodup->P[i]? =some x->vs[i]? =some v->kindOf x≠some .local->
  bindC kindOf (P.zip vs) m x=some v
 | [],_,_,_,_,h,_,_=>by simp at h
 |_::_,[],_,_,_,_,h,_=>by simp at h
 |p::P,w::vs,0,m,nd,h1,h2,hk=>by
  simp at h1 h2;subst h1;subst h2;show bindC kindOf ((p,w)::P.zip vs) m p=_;unfold bindC;rw[Iy fun v hv=>(Bn.mp nd).1 (C4 hv).1,Ab hk]
  simp
 |p::P,w::vs,i+1,m,nd,h1,h2,hk=>by
  show bindC kindOf ((p,w)::P.zip vs) m x=_;unfold bindC;exact I0 (i:=i) (Bn.mp nd).2 (by simpa using h1) (by simpa using h2) hk
def start (N:List Str) (vs:List V):St:=vs.map some++List.replicate (N.length-vs.length) none
def yI (CX:qV) (P:Program) (w:World) (K:FG) (mg:Str->Option Value) (base:Heap) (N:List Str) (qual:Str) (scope:Scope) (f:Addr) (cd:Value) (A:Around) (outer:List Env) (s:Shared) (H:Hp) (E:XK):Cx where
 prog:=P
 w:=w
 K:=K
 mg:=mg
 base:=base
 A:=A.deeper (envOfC qual scope s.heap.objs.size f cd)
 N:=N
 s₀:=s
 H₀:=H
 env:=envOfC qual scope s.heap.objs.size f cd
 outer:=outer
 stack:=envOfC qual scope s.heap.objs.size f cd::outer
 ex:=[]
 calm:=true
 fn:=fun _=>true
 pn:=[]
 xe:=fun e s'=>wpAny (model P w) (A.deeper (envOfC qual scope s.heap.objs.size f cd)) (leaving (envOfC qual scope s.heap.objs.size f cd) e) (fun _ s''=>CX outer H s E e s'') (fun e' s''=>CX outer H s E e' s'') s'
def IA {sc:Scope} {n:Nat} {x:Str} (h:sc.names.lookup x=some .cell):∃c,(cellsFrom n sc.names []).lookup x=some c:=by
 have q:=PySem.W.cellsFrom_some sc.names n [] (.inl h);exact Option.isSome_iff_exists.mp q
def Mf {CX:qV} {P:Program} {w:World} {K:FG} {mg:Str->Option Value} {base:Heap} {N ps:List Str} {qual:Str} {scope:Scope} {f:Addr} {cd:Value} {A:Around} {outer:List Env} {s s1:Shared} {H:Hp} {E:XK} {us:List Value} {vs:List V}
  (S:FnScope N ps scope) (hd:A.handled=none) (e0:Env0 P w K mg base A outer s H) (hl:vs.length=ps.length) (r:Vals vs us)
  (x:InCallC s s.heap.objs.size (bindL (envOfC qual scope s.heap.objs.size f cd).kindOf (ps.zip us) fun _=>none) (cellsFrom (s.heap.objs.size+1) scope.names []) (bindC (envOfC qual scope s.heap.objs.size f cd).kindOf (ps.zip us) fun _=>none) s1):
  Inv (yI CX P w K mg base N qual scope f cd A outer s H E) [] (start N vs) H s1:=by
 have hpl:ps.length<=N.length:=by have:=congrArg List.length S.pre;rw[B2]at this;lia
 obtain⟨h1,tk,rfl,hk⟩:=x.done;have noA:∀b:Addr,b∉(yI CX P w K mg base N qual scope f cd A outer s H E).ex:=fun b z=>absurd (show b∈([]:List Addr) from z) (by simp)
 refine⟨⟨e0.mod,S.kind,rfl,rfl,Af _,fun y z c h1 h2=>?_,fun y hy=>?_,fun y c _ h=>?_,fun _=>hd,Around.frames_deeper e0.frames,.inr ⟨rfl,rfl⟩,fun b z=>absurd z (noA b),e0.bs,e0.bsz,fun b _ _=>noA b,fun b z=>absurd z (noA b),e0.funs,e0.frf⟩,
  rfl,e0.bare,Un.kept hk,⟨_,x.toInCall.ns,fun i y v h1 h2 h3=>?_⟩,fun y c h=>⟨_,x.cell y c h⟩,e0.hok.fresh (Af _),fun y c h=>?_,fun p hp=>absurd (show p∈([]:AL) from hp) (by simp),e0.hok.kept hk,?_⟩
 .exact name_of_addr x.apart (B3 h1) (B3 h2)
 .have hy:scope.names.lookup y=some .cell\/scope.names.lookup y=some .free:=hy
  rcases hy with hy|hy
  .exact IA hy
  .exact absurd rfl (S.nofree _ (B3 hy))
 .exact Nat.le_of_lt (x.above y c (B3 h))
 .have hi:i<vs.length:=by
   unfold start at h2
   by_cases hi:i<vs.length
   .exact hi
   .rw[Bp (by simpa using hi)]at h2
    rw[Dx]at h2
    split at h2<;>cases h2
  have ha:vs[i]? =some v:=by
   unfold start at h2;rw[A8 (by simpa using hi),A2]at h2
   cases e:vs[i]? with
   |none=>rw[e]at h2;cases h2
   |some a=>rw[e]at h2;cases h2;rfl
  obtain⟨u,hu,rv⟩:=r.get ha;have hp:ps[i]? =some y:=by
   rw[<-S.pre,List.getElem?_take_of_lt (by lia)];exact h1
  have ndP:ps.Nodup:=by rw[<-S.pre];exact S.nd.sublist (List.take_sublist _ _)
  refine⟨u,rv,?_⟩
  rcases S.par y (Al hp) with k|k
  .exact .inl ⟨k,Iz ndP hp hu k⟩
  .obtain⟨c,e⟩:=IA (n:=s.heap.objs.size+1) k
   refine .inr ⟨.inl k,c,e,?_⟩
   have q:=x.cell y c e;rw[I0 ndP hp hu (by show scope.names.lookup y≠_;rw[k];decide)]at q
   exact q
 .exact e0.hok.fresh (Nat.le_of_lt (x.above y c (B3 h)))
 .unfold start
  show _=N.length;rw[Am,Ah,B7];lia
def Mg {CX:qV} {P:Program} {w:World} {K:FG} {mg:Str->Option Value} {base:Heap} {k:Nat} {f:Addr} {name qual:Str} {params:Arguments} {body:List Stmt} {scope:Scope} {dV kV doc pm cdv ct oc:Value} {an od:Option Addr}
  {osl:Array (Option Value)} {N ps:List Str} {sp:Sp} (lk:K.lookup f=some ⟨oc,od,.func (PySem.W.fnOf name qual params body scope dV kV doc pm an cdv ct),osl⟩) (hcd:PySem.W.codeIn K cdv qual=true) (S:FnScope N ps scope)
  (len:∀vs H Q E,sp vs H Q E->vs.length=ps.length)
  (hbody:∀(A:Around) (outer:List Env) (s:Shared) (H:Hp) (vs:List V) (Q:VK) (E:XK),Room k (A.deeper (envOfC qual scope s.heap.objs.size f cdv))->sp vs H Q E->
   ∃t,yB (yI CX P w K mg base N qual scope f cdv A outer s H E) body t/\t {nx:=fun _ H'=>Q .non H',rt:=Q} (start N vs) H):
  FnOk P w K mg base CX (k+1) f (PySem.W.fnOf name qual params body scope dV kV doc pm an cdv ct) ps sp:=by
 refine⟨len,fun A outer s H args us vs Q E hr e0 hb r hsp=>?_⟩
 have hl:=len _ _ _ _ hsp;have KX:K.In s.heap:=e0.mod.kin.keeps fun b o e=>(e0.bs b o e).1
 have lim:s.heap.NoLimit:=e0.mod.nolimit.keeps fun b o e=>(e0.bs b o e).1
 have hkind:∀y∈ps.zip us,scope.names.lookup y.1=some .local\/(scope.names.lookup y.1=some .cell/\((cellsFrom (s.heap.objs.size+1) scope.names []).lookup y.1).isSome=true):=fun ⟨n,v⟩ hy=>by
  rcases S.par n (C4 hy).1 with q|q
  .exact .inl q
  .exact .inr ⟨q,PySem.W.cellsFrom_some _ _ _ (.inl q)⟩
 refine codeAny_call_function hr.depth (KX _ _ lk) rfl S.co S.gen rfl (PySem.W.codeRec_of KX hcd) (hb _ _ _ _ ?_)
 refine wpAny_newFunctionEnv_cells S.kind hkind fun env he s1 x=>?_
 subst he
 refine⟨lim.keeps x.toInCall.keep,codeAny_func ?_⟩
 obtain⟨t,ht,hq⟩:=hbody A outer s H vs Q E (hr.deeper _) hsp;have I:Inv (yI CX P w K mg base N qual scope f cdv A outer s H E) [] (start N vs) H s1:=Mf S hr.hd e0 hl r x
 refine Aw (ht [] s1 (start N vs) H _ I hq) (fun fl s' hs=>?_) fun e s' hs=>hs
 have fin:∀{σ':St} {H':Hp} {v:V} {u:Value},Inv (yI CX P w K mg base N qual scope f cdv A outer s H E) [] σ' H' s'->RelV v u->Q v H'->CE outer P w H s Q u s':=
  fun {σ' H' v u} J rv q=>⟨v,H',J.os,J.bare,J.base,J.hok,rv,q⟩
 cases fl with
 |ret u=>
  obtain⟨v,σ',H',J,rv,q⟩:=hs;exact fin J rv q
 |next=>
  obtain⟨σ',H',J,q⟩:=hs;exact fin (v:=V.non) (u:=Value.none) J rfl q
 |brk=>
  obtain⟨_,_,_,q⟩:=hs;exact False.elim q
 |cont=>
  obtain⟨_,_,_,q⟩:=hs;exact False.elim q
section
variable {X:Cx} {x:Str} {p pos:Pos} {e:Expr} {es:List Expr} {t:TA} {id T:String} {r:List V->Hp->VK->Prop}
def tCB (r:List V->Hp->VK->Prop) (t:TA):TE:=fun σ H Q=>t σ H fun vs H1=>r vs H1 Q
def Mh (hc:yM X (.builtin id) r) (hg:Gl X x) (hm:X.mg x=none) (hv:bootBuiltins x=some (.builtin id)) (ha:PA X (e::es) t) (hn:x≠"__name__" :=by decide) (hdb:(x==("__debug__" :Str))=false:=by decide)
  (he:SE X e es:=by rfl) (hpl:BA X pos es:=by rfl):PE X (.Call (.Name x p) (e::es) [] pos) (tCB r t):=by
 intro pins s σ H Q I h
 refine Di (CG I hg hm hv ?_ hn hdb)
 exact PyProof.Rows.callWith_builtin1 (zp (ha pos pins s σ H _ I h) fun us s1 ⟨vs,H1,I1,r1,q1⟩=>hc pins s1 σ H1 vs us Q I1 r1 q1) he hpl
def Mi (hc:yM X (.type T) r) (hg:Gl X x) (hm:X.mg x=none) (hv:bootBuiltins x=some (.type T)) (ha:PA X (e::es) t) (hn:x≠"__name__" :=by decide) (hdb:(x==("__debug__" :Str))=false:=by decide)
  (he:SE X e es:=by rfl) (hpl:BA X pos es:=by rfl):PE X (.Call (.Name x p) (e::es) [] pos) (tCB r t):=by
 intro pins s σ H Q I h
 refine Di (CG I hg hm hv ?_ hn hdb)
 exact C0 (zp (ha pos pins s σ H _ I h) fun us s1 ⟨vs,H1,I1,r1,q1⟩=>hc pins s1 σ H1 vs us Q I1 r1 q1) he hpl
end
end L2
namespace HT
open PySem PyProof.Rows
section
variable {prog:Program} {w:World} {A:Around} {E:VP} {s:Shared}
def sIx (n d:Nat):Option Int->Nat
 |none=>d
 |some v=>if v<0 then (v+(n:Int)).toNat else min v.toNat n
def Mj (n d:Nat) (hd:d<=n) (o:Option Int):sIx n d o<=n:=by
 cases o with
 |none=>exact hd
 |some v=>
  show (if v<0 then (v+(n:Int)).toNat else min v.toNat n)<=n
  by_cases hv:v<0
  .rw[Aa hv];lia
  .rw[Ab hv];exact Nat.min_le_right _ _
def IB (v:Int) (n d:Nat):(if v<0 then max (v+(n:Int)) 0 else min v (n:Int))=((sIx n d (some v):Nat):Int):=by
 show (if v<0 then max (v+(n:Int)) 0 else min v (n:Int))=(((if v<0 then (v+(n:Int)).toNat else min v.toNat n):Nat):Int)
 by_cases hv:v<0
 .simp only[Aa hv];lia
 .simp only[Ab hv];lia
def Mk (lo hi:Option Int) (n:Nat):Builtin.Slice.sliceAdjust lo hi 1 (n:Int)=(((sIx n 0 lo:Nat):Int),((sIx n n hi:Nat):Int)):=by
 have h1: ¬((1:Int)<0):=by lia
 unfold Builtin.Slice.sliceAdjust;simp only[h1,Bo]
 refine Prod.ext ?_ ?_
 .cases lo with
  |none=>rfl
  |some v=>exact IB v n 0
 .cases hi with
  |none=>rfl
  |some v=>exact IB v n n
def Ml (i j:Nat):Builtin.Slice.slicePlaces (i:Int) (j:Int) 1=j-i:=by
 unfold Builtin.Slice.slicePlaces;have h1:(1:Int) > 0:=by lia
 simp only[h1,Bb,Int.ediv_one]
 split<;>lia
def IC {v:Value} {o:Option Int} {Q:Option Int->Shared->Prop} (p:IsPart v o) (h:Q o s):wpAny (model prog w) A (Builtin.Slice.slicePartIndex v) Q E s:=by
 cases p with
 |none=>exact slicePart_none h
 |int i t=>exact slicePart_int h
def Mm {sl:Addr} {vl vu:Value} {lo hi:Option Int} {n:Nat} {Q:Int×Int×Nat->Shared->Prop} (hs:s.heap.IsSliceOf sl vl vu .none) (pl:IsPart vl lo) (pu:IsPart vu hi)
  (h:Q (((sIx n 0 lo:Nat):Int),1,sIx n n hi-sIx n 0 lo) s):wpAny (model prog w) A (Builtin.Slice.sliceApplied (.ref sl) (pure (n:Int))) Q E s:=by
 obtain⟨os,hos,hcs,hds⟩:=id hs;unfold Builtin.Slice.sliceApplied Builtin.Slice.sliceFields
 refine Ac (Ac (Bf hos hds (x:=vl) rfl (Ac (Bf hos hds (x:=vu) rfl (Ac (Bf hos hds (x:= .none) rfl (Ag ?_)))))))
 refine Ac (slicePart_none ?_)
 show wpAny _ _ (if ((1:Int)==0)=true then _ else _) _ _ s
 rw[Ab (by decide)]
 refine Ac (IC pl (Ac (IC pu (Ac (Ag ?_)))))
 show wpAny _ _ (match Builtin.Slice.sliceAdjust lo hi 1 (n:Int) with|(lo,hi)=>pure (lo,(1:Int),Builtin.Slice.slicePlaces lo hi 1)) _ _ s
 rw[Mk lo hi n];show wpAny _ _ (pure (((sIx n 0 lo:Nat):Int),(1:Int),Builtin.Slice.slicePlaces ((sIx n 0 lo:Nat):Int) ((sIx n n hi:Nat):Int) 1)) _ _ s;rw[Ml];exact Ag h
def Mn (xs:Array Value) (i k:Nat):((List.range k).filterMap fun (m:Nat)=>xs[((i:Int)+(m:Int)*1).toNat]?).toArray=((xs.toList.drop i).take k).toArray:=by
 have e:(fun (m:Nat)=>xs[((i:Int)+(m:Int)*1).toNat]?)=fun m=>xs[i+m]? :=by
  funext m
  have:((i:Int)+(m:Int)*1).toNat=i+m:=by lia
  rw[this]
 rw[e];have:=pick_run xs i k;rw[List.filterMap_map]at this;have e2:((fun x=>xs[x]?)∘fun x=>i+x)=fun m=>xs[i+m]? :=rfl
 rw[e2]at this;rw[this]
def getItem_tuple_cut {t sl:Addr} {items:Array Value} {vl vu:Value} {lo hi:Option Int} {Q:VP} (ht:IsTup s.heap t items) (hs:s.heap.IsSliceOf sl vl vu .none) (pl:IsPart vl lo) (pu:IsPart vu hi)
  (hw: ¬(sIx items.size 0 lo=0/\sIx items.size items.size hi=items.size))
  (h:Q (.ref s.heap.objs.size) {s with heap:=s.heap.push {cls:= .type "tuple",data:= .seq ((items.toList.drop (sIx items.size 0 lo)).take (sIx items.size items.size hi-sIx items.size 0 lo)).toArray}})
  (hsz:items.size<=sizeLine):wpAny (model prog w) A (getItem (.ref t) (.ref sl)) Q E s:=by
 have htake:sizeOk (.seq ((items.toList.drop (sIx items.size 0 lo)).take (sIx items.size items.size hi-sIx items.size 0 lo)).toArray):=by
  show ((items.toList.drop (sIx items.size 0 lo)).take (sIx items.size items.size hi-sIx items.size 0 lo)).toArray.size<=sizeLine;rw[Ak,B2,Cf,Bz];lia
 have hj:sIx items.size items.size hi<=items.size:=Mj _ _ (Af _) hi;obtain⟨os,hos,hcs,hds⟩:=id hs;have hTs:s.TypeIs (.ref sl) "slice" :=⟨os,hos,hcs⟩;unfold getItem
 try with_reducible refine Bm ?_
 first|refine Ac (Ag ?_)|skip
 refine Ac (wpAny_sequenceKey ht.typeIs (by decide) ?_)
 refine Ac (Dy (name:=Str.ofString "__getitem__") ht.typeIs Dz
  (wpAny_call_entry Dz ht.typeIs entry_tuple_getitem ?_ (args_tuple_getitem _ _)))
 show wpAny _ _ (Builtin.Tuple.tupleItemsOf (.ref t) >>=_) _ _ s
 refine Ac (tupleItemsOf_ ht ?_)
 refine Ac (wpAny_typeOf hTs ?_)
 rw[Aa (by decide)]
 refine Ac (Mm hs pl pu ?_)
 have hno: ¬((((sIx items.size 0 lo:Nat):Int)==0 && (1:Int)==1 && (sIx items.size items.size hi-sIx items.size 0 lo)==items.size)=true):=by
  intro q;rw[Be,Be]at q;have q1:((sIx items.size 0 lo:Nat):Int)=0:=eq_of_beq q.1.1;have q2:sIx items.size items.size hi-sIx items.size 0 lo=items.size:=eq_of_beq q.2;exact hw ⟨by lia,by lia⟩
 show wpAny _ _ (if (((sIx items.size 0 lo:Nat):Int)==0 && (1:Int)==1 && (sIx items.size items.size hi-sIx items.size 0 lo)==items.size)=true then _ else _) _ _ s
 rw[Ab hno,Mn]
 first
  |exact Ac (m:=Builtin.Tuple.tupleExact _) (Co (Ag ⟨_,rfl,Ag h⟩) htake)
  |exact Ac (m:=Builtin.Tuple.tupleExact _) (Co (Ac (Ag (Ag ⟨_,rfl,Ag h⟩))) htake)
  |exact Ac (Ac (m:=Builtin.Tuple.tupleExact _) (Co (Ag (Ag ⟨_,rfl,Ag h⟩)) htake))
  |exact Ac (Ac (m:=Builtin.Tuple.tupleExact _) (Co (Ag ⟨_,rfl,Ag h⟩) htake))
end
end HT
namespace L2
open PySem PySem.Spec PyProof.Rows
abbrev TO:=St->Hp->(Option Int->Hp->Prop)->Prop
def PO (X:Cx) (e:Option Expr) (t:TO):Prop:=
 ∀(pins:AL) (s:Shared) (σ:St) (H:Hp) (Q:Option Int->Hp->Prop),Inv X pins σ H s->t σ H Q->
  wpAny (model X.prog X.w) X.A (evalPart e X.env) (fun u s'=> ∃o H',Inv X pins σ H' s'/\IsPart u o/\Q o H') X.xe s
def Mo:TO:=fun _ H Q=>Q none H
def Mp (t:TE):TO:=fun σ H Q=>t σ H fun x H1=> ∃i,x=.int i/\Q (some i) H1
section
variable {X:Cx} {e:Expr} {te:TE} {lo hi:Option Expr} {tl th:TO} {pos p2:Pos}
def Mq:PO X none Mo:=by
 intro pins s σ H Q I h;rw[evalPart_none];exact Ag ⟨none,H,I,.none,h⟩
def Mr (h:PE X e te):PO X (some e) (Mp te):=by
 intro pins s σ H Q I hw;rw[evalPart_some]
 refine zp (h pins s σ H _ I hw) fun u s1 ⟨x,H1,I1,r1,q1⟩=>?_
 obtain⟨i,rfl,q⟩:=q1;obtain⟨t,rfl⟩:=r1;exact⟨some i,H1,I1,.int i t,q⟩
def SlR (X:Cx) (r:V->Option Int->Option Int->Hp->VK->Prop):Prop:=
 ∀(pins:AL) (s:Shared) (σ:St) (H:Hp) (x:V) (v vl vu:Value) (lo hi:Option Int) (sl:Addr) (Q:VK),Inv X pins σ H s->RelV x v->s.heap.IsSliceOf sl vl vu .none->IsPart vl lo->IsPart vu hi->r x lo hi H Q->
  ∃T id,typeLookup (.type T) "__getitem__" =pure (some (.builtin id))/\s.TypeIs v T/\wpAny (model X.prog X.w) X.A (getItem v (.ref sl)) (EP X pins σ Q) X.xe s
def SlR.or {r r':V->Option Int->Option Int->Hp->VK->Prop} (h:SlR X r) (h':SlR X r'):SlR X (fun x lo hi H Q=>r x lo hi H Q\/r' x lo hi H Q):=by
 intro pins s σ H x v vl vu lo hi sl Q I rx hs pl pu q
 rcases q with q|q
 .exact h pins s σ H x v vl vu lo hi sl Q I rx hs pl pu q
 .exact h' pins s σ H x v vl vu lo hi sl Q I rx hs pl pu q
def tSl (r:V->Option Int->Option Int->Hp->VK->Prop) (te:TE) (tl th:TO):TE:=fun σ H Q=>te σ H fun x H1=>tl σ H1 fun l H2=>th σ H2 fun u H3=>r x l u H3 Q
theorem Ms {r:V->Option Int->Option Int->Hp->VK->Prop} (hr:SlR X r) (he:PE X e te) (hl:PO X lo tl) (hu:PO X hi th):PE X (.Subscript e (.Slice lo hi none p2) pos) (tSl r te tl th):=by
 intro pins s σ H Q I h
 refine Subscript_ (zp (he pins s σ H _ I h) fun v s1 ⟨x,H1,I1,r1,q1⟩=>?_)
 refine wpAny_Slice (zp (hl pins s1 σ H1 _ I1 q1) fun vl s2 ⟨l,H2,I2,pl,q2⟩=>zp (hu pins s2 σ H2 _ I2 q2) fun vu s3 ⟨u,H3,I3,pu,q3⟩=>?_)
 rw[evalPart_none]
 refine Ag ?_
 have I4:Inv X pins σ H3 {s3 with heap:=s3.heap.push {cls:= .type "slice",data:= .fields #[vl,vu,.none]}}:=I3.kept (t':=s3.toks) fun b ob q=>Aq _ q
 obtain⟨T,id,hT,ht,hg⟩:=hr pins {s3 with heap:=s3.heap.push {cls:= .type "slice",data:= .fields #[vl,vu,.none]}} σ H3 x v vl vu l u s3.heap.objs.size Q I4 r1 (Heap.IsSliceOf.new ..) pl pu q3
 show wpAny (model X.prog X.w) X.A (subscriptTail e (.Slice lo hi none p2) v (.ref s3.heap.objs.size)) (EP X pins σ Q) X.xe {s3 with heap:=s3.heap.push {cls:= .type "slice",data:= .fields #[vl,vu,.none]}}
 exact tail_any (ops:=[.ref s3.heap.objs.size,v]) ht hT hg (by with_unfolding_all rfl)
def cutV (xs:List V) (lo hi:Option Int):List V:=(xs.drop (HT.sIx xs.length 0 lo)).take (HT.sIx xs.length xs.length hi-HT.sIx xs.length 0 lo)
def ID (xs:List V) (lo hi:Option Int):(cutV xs lo hi).length<=xs.length:=by
 unfold cutV;rw[B2,Cf];lia
def rSlT (K:FG):V->Option Int->Option Int->Hp->VK->Prop:=fun x lo hi H Q=> ∃a xs,x=.ref a/\SqT K H a xs/\
 ¬(HT.sIx xs.length 0 lo=0/\HT.sIx xs.length xs.length hi=xs.length)/\∀p,H p=none->Q (.ref p) (zl H p (.tup (cutV xs lo hi)))
def sl_tup:SlR X (rSlT X.K):=by
 intro pins s σ H x v vl vu lo hi sl Q I rx hs pl pu h;obtain⟨a,xs,rfl,hx,hw,q⟩:=h;cases rx;obtain⟨its,r,ht,hz⟩:=I.tuple hx;have hlen:its.toArray.size=xs.length:=by rw[Ak];exact r.length.symm
 refine⟨"tuple",_,Dz.lookup,ht.typeIs,?_⟩
 refine HT.getItem_tuple_cut ht hs pl pu (by rw[hlen];exact hw) ?_ (by rw[hlen];exact hz)
 rw[hlen]
 refine⟨.ref s.heap.objs.size,_,I.laid (t':=s.toks) (o:= .tup (cutV xs lo hi)) (fun b ob q=>Aq _ q) (Af _) ?_,rfl,q _ (I.hok.fresh (Af _))⟩
 exact⟨Bc (ID xs lo hi) hz,_,(r.drop (HT.sIx xs.length 0 lo)).take (HT.sIx xs.length xs.length hi-HT.sIx xs.length 0 lo),IsTup.new _ _⟩
end
def qE (n:Nat) (i:Int):Option Nat:=if 0<=i then (if i<n then some i.toNat else none) else if -(n:Int)<=i then some (i+n).toNat else none
def atI {α:Type} (xs:List α) (i:Int):Option α:=(qE xs.length i).bind fun j=>xs[j]?
def IE {n:Nat} {i:Int} {j:Nat} (h:qE n i=some j):seqIndex? i n=some j/\j<n/\ -(n:Int)<=i/\i<n:=by
 unfold qE at h
 by_cases h0:0<=i
 .rw[Aa h0]at h
  by_cases h1:i<n
  .rw[Aa h1]at h
   have e:i.toNat=j:=Option.some.inj h;exact⟨by rw[seqIndex_of h0 h1,e],by lia,by lia,h1⟩
  .rw[Ab h1]at h;cases h
 .rw[Ab h0]at h
  by_cases h1: -(n:Int)<=i
  .rw[Aa h1]at h
   have e:(i+n).toNat=j:=Option.some.inj h;exact⟨by rw[seqIndex_neg (by lia) h1,e],by lia,h1,by lia⟩
  .rw[Ab h1]at h;cases h
def GI {α:Type} {xs:List α} {i:Int} {v:α} (h:atI xs i=some v):∃j,seqIndex? i xs.length=some j/\xs[j]? =some v/\j<xs.length/\ -(xs.length:Int)<=i/\i<xs.length:=by
 unfold atI at h;cases e:qE xs.length i with
 |none=>rw[e]at h;cases h
 |some j=>
  rw[e]at h;obtain⟨h1,h2,h3,h4⟩:=IE e;exact⟨j,h1,h,h2,h3,h4⟩
def jm {α:Type} {xs:List α} {j:Nat} {v:α} (h:xs[j]? =some v):atI xs (j:Int)=some v:=by
 have hj:j<xs.length:=(As.mp h).1;have e:qE xs.length (j:Int)=some j:=by
  unfold qE;rw[Aa (by lia),Aa (by lia)];simp
 unfold atI;rw[e];exact h
def FD (b:Expr):Prop:=∀o i,subscripted b false o i=operate [o,i] (getItem o i)
def IxR (X:Cx) (r:R2):Prop:=
 ∀(value slice:Expr) (pins:AL) (s:Shared) (σ:St) (H:Hp) (x y:V) (v u:Value) (Q:VK),Inv X pins σ H s->RelV x v->RelV y u->r x y H Q->
  subscripted slice false v u=operate [v,u] (getItem v u)->wpAny (model X.prog X.w) X.A (subscriptTail value slice v u) (EP X pins σ Q) X.xe s
def MtR (X:Cx) (id:String) (r:V->List V->Hp->VK->Prop):Prop:=
 ∀(pins:AL) (s:Shared) (σ:St) (H:Hp) (x:V) (xs:List V) (v:Value) (us:List Value) (Q:VK),Inv X pins σ H s->RelV x v->Vals xs us->r x xs H Q->
  wpAny (model X.prog X.w) X.A (call (.builtin id) (v::us)) (EP X pins σ Q) X.xe s
section
variable {X:Cx} {a b:Expr} {ta tb:TE} {pos:Pos}
def IxR.or {r r':R2} (h:IxR X r) (h':IxR X r'):IxR X (fun x y H Q=>r x y H Q\/r' x y H Q):=by
 intro value slice pins s σ H x y v u Q I rx ry q hs
 rcases q with q|q
 .exact h value slice pins s σ H x y v u Q I rx ry q hs
 .exact h' value slice pins s σ H x y v u Q I rx ry q hs
def Mt {r:R2} (hr:IxR X r) (ha:PE X a ta) (hb:PE X b tb) (hs:FD b):PE X (.Subscript a b pos) (tOp r ta tb):=by
 intro pins s σ H Q I h;exact Subscript_ (binT ha hb I h fun v u s2 x y H2 I2 rx ry q=>hr a b pins s2 σ H2 x y v u Q I2 rx ry q (hs _ _))
def rIxL (K:FG):R2:=fun x y H Q=> ∃p xs i v,x=.ref p/\y=.int i/\SqL K H p xs/\atI xs i=some v/\Q v H
def rIxT (K:FG):R2:=fun x y H Q=> ∃p xs i v,x=.ref p/\y=.int i/\SqT K H p xs/\atI xs i=some v/\Q v H
def rIxS:R2:=fun x y H Q=> ∃z i c,x=.str z/\y=.int i/\z.length<=sizeLine/\atI z.cps.toList i=some c/\Q (.str ⟨#[c]⟩) H
def ix_list:IxR X (rIxL X.K):=by
 intro value slice pins s σ H x y v u Q I rx ry h hs;obtain⟨p,xs,i,z,rfl,rfl,hq,he,q⟩:=h;cases rx;obtain⟨t,rfl⟩:=ry;obtain⟨its,r,pl,hz⟩:=I.list hq;obtain⟨j,h1,h2,h3,h4,h5⟩:=GI he;obtain⟨w,ew,rw'⟩:=r.get h2;have hl:=r.length;have hn:=ED;have fin:EP X pins σ Q w s:=⟨z,H,I,rw',q⟩
 by_cases h0:0<=i
 .have hj:i.toNat=j:=by
   rw[seqIndex_of h0 h5]at h1;exact Option.some.inj h1
  exact item_listR pl.isList h0 (by lia) (by rw[hj];simpa using ew) fin hs
 .have hj:(i+(its.toArray.size:Int)).toNat=j:=by
   rw[seqIndex_neg (by lia) h4]at h1
   rw[Ak,<-hl];exact Option.some.inj h1
  exact subscriptTail_builtinR (x:=w) pl.isList.typeIs slot_list_getitem.lookup
   (wpAny_getItem_list_neg (Q:=fun r s'=>r=w/\EP X pins σ Q r s') pl.isList (by lia) (by rw[Ak]<;>lia) (by lia) (by rw[hj];simpa using ew) ⟨rfl,fin⟩) hs
def ix_tup:IxR X (rIxT X.K):=by
 intro value slice pins s σ H x y v u Q I rx ry h hs;obtain⟨p,xs,i,z,rfl,rfl,hq,he,q⟩:=h;cases rx;obtain⟨t,rfl⟩:=ry;obtain⟨its,r,pl,hz⟩:=I.tuple hq;obtain⟨j,h1,h2,h3,h4,h5⟩:=GI he;obtain⟨w,ew,rw'⟩:=r.get h2;have hl:=r.length;have hn:=ED;have fin:EP X pins σ Q w s:=⟨z,H,I,rw',q⟩;exact subscriptTail_builtinR (x:=w) pl.typeIs slot_tuple_getitem.lookup
  (getItem_tuple (j:=j) (Q:=fun r s'=>r=w/\EP X pins σ Q r s') pl (by lia) (by lia) (by rw[Ak,<-hl];exact h1) (by simpa using ew) ⟨rfl,fin⟩) hs
def Mu:IxR X rIxS:=by
 intro value slice pins s σ H x y v u Q I rx ry h hs;obtain⟨z,i,c,rfl,rfl,hz,he,q⟩:=h;obtain⟨t,rfl⟩:=rx;obtain⟨t',rfl⟩:=ry;obtain⟨j,h1,h2,h3,h4,h5⟩:=GI he;have hl:z.cps.toList.length=z.length:=by simp[Str.length]
 rw[hl]at h1 h4 h5;have hn:=ED;exact tail_any (typeIs_str s z t) slot_str_getitem.lookup (getItem_str (c:=c) (by
  have e1:decide (i < -(2 ^ 63:Int))=false:=Aj (by lia)
  have e2:decide (i≥2 ^ 63)=false:=Aj (by lia)
  rw[e1,e2,C5]) (by rw[h1];simpa using h2) ⟨.str ⟨#[c]⟩,H,I.tok _,⟨_,rfl⟩,q⟩) hs
def Mv (its:List Value) (n j:Nat) (u:Value):Obj.mapSeq (·.setIfInBounds j u) {cls:= .type "list",data:= .seq its.toArray n}={cls:= .type "list",data:= .seq (its.set j u).toArray n}:=by
 simp[Obj.mapSeq]
theorem Inv.lst {pins:AL} {σ:St} {H:Hp} {s:Shared} {p:Addr} {xs:List V} (I:Inv X pins σ H s) (h:H p=some (.lst xs)):
  ∃(its:List Value) (n:Nat),Vals xs its/\s.heap.get? p=some {cls:= .type "list",data:= .seq its.toArray n}/\xs.length<=sizeLine:=by
 obtain⟨z,its,n,r,e⟩:=I.hok p _ h;exact⟨its,n,r,e,z⟩
def Inv.lstUpd {pins:AL} {σ:St} {H:Hp} {s:Shared} {p:Addr} {xs ys:List V} {its its':List Value} {n n':Nat} {f:Obj->Obj} (I:Inv X pins σ H s) (h:H p=some (.lst xs))
  (ho:s.heap.get? p=some {cls:= .type "list",data:= .seq its.toArray n}) (hf:f {cls:= .type "list",data:= .seq its.toArray n}={cls:= .type "list",data:= .seq its'.toArray n'}) (r:Vals ys its') (hz:ys.length<=sizeLine) (t:Nat):
  Inv X pins σ (zl H p (.lst ys)) {s with heap:=s.heap.update p f,toks:=t}:=by
 have e:(s.heap.update p f).get? p=some {cls:= .type "list",data:= .seq its'.toArray n'}:=by
  rw[Heap.get?_update_self f ho (by rw[hf]<;>rfl),hf]
 refine I.write (x:=p) (e:=p) (by rw[h];trivial) (.inl rfl) (fun b u hb q=>(D0 _ _ (Bl hb)).trans q) ⟨_,e⟩ ?_
 exact⟨hz,its',n',r,e⟩
def GJ:V->V->V->Hp->(Hp->Prop)->Prop:=fun o i v H Q=> ∃p xs k j,o=.ref p/\i=.int k/\H p=some (.lst xs)/\qE xs.length k=some j/\Q (zl H p (.lst (xs.set j v)))
def GK:PSet X GJ:=by
 intro pins s σ H o i v ov iv u Q I ro ri rv h;obtain⟨p,xs,k,j,rfl,rfl,hp,hj,q⟩:=h;cases ro;obtain⟨t,rfl⟩:=ri;obtain⟨its,n,r,ho,hz⟩:=I.lst hp;obtain⟨h1,h2,h3,h4⟩:=IE hj;have hl:=r.length;have hn:=ED;have I':Inv X pins σ (zl H p (.lst (xs.set j v))) {s with heap:=s.heap.update p (Obj.mapSeq (·.setIfInBounds j u))}:=
  I.lstUpd hp ho (Mv its n j u) (r.set rv j) (by rw[A4];exact hz) s.toks
 by_cases h0:0<=k
 .have hk:k.toNat=j:=by
   rw[seqIndex_of h0 h4]at h1;exact Option.some.inj h1
  exact PySem.W.ki_setAt ho h0 (by lia) (by rw[Ak,<-hl];exact h4) (by rw[hk];exact⟨_,I',q⟩)
 .have hk:(k+(its.toArray.size:Int)).toNat=j:=by
   rw[seqIndex_neg (by lia) h3]at h1
   rw[Ak,<-hl];exact Option.some.inj h1
  exact PySem.W.ki_setBack ho (by lia) (by rw[Ak,<-hl];exact h3) (by lia) (by rw[hk];exact⟨_,I',q⟩)
def Mw (lo hi:Option Int) (n:Nat):(sliceBounds lo hi none n).1=((HT.sIx n 0 lo:Nat):Int)/\(sliceBounds lo hi none n).2.1=((HT.sIx n n hi:Nat):Int)/\(sliceBounds lo hi none n).2.2=1:=by
 refine⟨?_,?_,rfl⟩
 .cases lo with
  |none=>simp[sliceBounds,HT.sIx]
  |some i=>
   simp only[sliceBounds,HT.sIx,Option.getD_none,show (1:Int) > 0 by decide,Bb]
   by_cases h:i<0
   .simp only[h,Bb]<;>lia
   .simp only[h,Bo]<;>lia
 .cases hi with
  |none=>simp[sliceBounds,HT.sIx]
  |some i=>
   simp only[sliceBounds,HT.sIx,Option.getD_none,show (1:Int) > 0 by decide,Bb]
   by_cases h:i<0
   .simp only[h,Bb]<;>lia
   .simp only[h,Bo]<;>lia
def Mx (its:List Value) (lo hi:Option Int):slicePick its.toArray lo hi none=((its.drop (HT.sIx its.length 0 lo)).take (HT.sIx its.length its.length hi-HT.sIx its.length 0 lo)).toArray:=by
 obtain⟨h1,h2,h3⟩:=Mw lo hi its.toArray.size;unfold slicePick;rw[h1,h2,h3];simp only[sliceRange_one,pick_run,Ak]<;>rfl
def rSlL (K:FG):V->Option Int->Option Int->Hp->VK->Prop:=fun x lo hi H Q=> ∃a xs,x=.ref a/\SqL K H a xs/\∀p,H p=none->Q (.ref p) (zl H p (.lst (cutV xs lo hi)))
def sl_list:SlR X (rSlL X.K):=by
 intro pins s σ H x v vl vu lo hi sl Q I rx hs pl pu h;obtain⟨a,xs,rfl,hx,q⟩:=h;cases rx;obtain⟨its,r,ht,hz⟩:=I.list hx;have hlen:=r.length
 refine⟨"list",_,slot_list_getitem.lookup,ht.isList.typeIs,?_⟩
 refine wpAny_getItem_list_slice ht.isList hs pl pu .none (by simp) ?_ (by rw[Ak]<;>lia)
 rw[Mx,<-hlen]
 refine⟨.ref s.heap.objs.size,_,I.laid (t':=s.toks) (o:= .lst (cutV xs lo hi)) (fun b ob q=>Aq _ q) (Af _) ?_,rfl,q _ (I.hok.fresh (Af _))⟩
 exact⟨Bc (ID xs lo hi) hz,_,0,(r.drop (HT.sIx xs.length 0 lo)).take (HT.sIx xs.length xs.length hi-HT.sIx xs.length 0 lo),A1 _ rfl⟩
def CI:V->Bool
 |.non=>true
 |.bl _=>true
 |.int _=>true
 |.str _=>true
 |_=>false
def eqV:V->V->Bool
 |.non,.non=>true
 |.bl a,.bl b=>a==b
 |.bl a,.int b=>(if a then 1 else 0)==b
 |.int a,.bl b=>a==(if b then 1 else 0)
 |.int a,.int b=>a==b
 |.str a,.str b=>a==b
 |_,_=>false
def IF {A:Around} {s:Shared} {y x:V} {u v:Value} (ry:RelV y u) (rx:RelV x v) (fy:CI y=true) (fx:CI x=true):SeqAt.EqAt A s u v (eqV y x):=by
 cases y with
 |non=>
  cases ry;cases x with
  |non=>cases rx;exact SeqAt.EqAt.same _
  |bl b=>cases rx;exact SeqAt.EqAt.none_bool b
  |int b=>obtain⟨t,rfl⟩:=rx;exact SeqAt.EqAt.none_int b t
  |str b=>obtain⟨t,rfl⟩:=rx;exact SeqAt.EqAt.none_str b t
  |_=>exact absurd (show false=true from fx) Ao
 |bl a=>
  cases ry;cases x with
  |non=>cases rx;exact SeqAt.EqAt.bool_none a
  |bl b=>cases rx;exact SeqAt.EqAt.bool_bool a b
  |int b=>obtain⟨t,rfl⟩:=rx;exact SeqAt.EqAt.bool_int a b t
  |str b=>obtain⟨t,rfl⟩:=rx;exact SeqAt.EqAt.bool_str a b t
  |_=>exact absurd (show false=true from fx) Ao
 |int a=>
  obtain⟨t',rfl⟩:=ry;cases x with
  |non=>cases rx;exact SeqAt.EqAt.int_none a t'
  |bl b=>cases rx;exact SeqAt.EqAt.int_bool a t' b
  |int b=>obtain⟨t,rfl⟩:=rx;exact SeqAt.EqAt.int_int a t' b t
  |str b=>obtain⟨t,rfl⟩:=rx;exact SeqAt.EqAt.int_str a t' b t
  |_=>exact absurd (show false=true from fx) Ao
 |str a=>
  obtain⟨t',rfl⟩:=ry;cases x with
  |non=>cases rx;exact SeqAt.EqAt.str_none a t'
  |bl b=>cases rx;exact SeqAt.EqAt.str_bool a t' b
  |int b=>obtain⟨t,rfl⟩:=rx;exact SeqAt.EqAt.str_int a t' b t
  |str b=>obtain⟨t,rfl⟩:=rx;exact SeqAt.EqAt.str_str a t' b t
  |_=>exact absurd (show false=true from fx) Ao
 |_=>exact absurd (show false=true from fy) Ao
def tyV (K:FG) (T:String) (x:V) (H:Hp):Prop:=match x with
 |.str _=>T="str"
 |.int _=>T="int"
 |.ref p=>(T="list" /\∃xs,SqL K H p xs)\/(T="tuple" /\∃o,K.lookup p=some o/\o.cls=.type "tuple" /\o.dict=none)\/
  (T="dict" /\((∃kvs,H p=some (.dK kvs))\/∃kvs,H p=some (.dT kvs)))\/(T="set" /\∃S n,H p=some (.set S n))
 |_=>False
def Mz {pins:AL} {σ:St} {H:Hp} {s:Shared} {T:String} {x:V} {v:Value} (I:Inv X pins σ H s) (r:RelV x v) (ty:tyV X.K T x H):
  s.TypeIs v T/\∀a,v=.ref a->∃ob,s.heap.get? a=some ob/\ob.dict=none:=by
 cases x with
 |str z=>
  obtain⟨t,rfl⟩:=r;cases (show T="str" from ty)
  exact⟨typeIs_str s z t,fun _ e=>nomatch e⟩
 |int i=>
  obtain⟨t,rfl⟩:=r;cases (show T="int" from ty)
  exact⟨typeIs_int s i t,fun _ e=>nomatch e⟩
 |ref p=>
  cases r
  rcases ty with ⟨rfl,xs,hq⟩|⟨rfl,o,hk,hc,hd⟩|⟨rfl,hk⟩|⟨rfl,S,n,hk⟩
  .obtain⟨its,_,pl,_⟩:=I.list hq
   refine⟨pl.isList.typeIs,fun a e=>?_⟩
   cases e;obtain⟨o,n,e,c,hd,_⟩:=pl;exact⟨o,e,hd⟩
  .refine⟨⟨o,I.kIn p o hk,hc⟩,fun a e=>?_⟩
   cases e;exact⟨o,I.kIn _ o hk,hd⟩
  .have z:∃o,s.heap.get? p=some o/\o.ExactDict:=by
    rcases hk with ⟨kvs,hk⟩|⟨kvs,hk⟩
    .obtain⟨_,_,_,_,o,_,_,e,ex,_⟩:=I.hok p _ hk
     exact⟨o,e,ex⟩
    .obtain⟨_,_,_,_,o,_,_,e,ex,_⟩:=I.hok p _ hk
     exact⟨o,e,ex⟩
   obtain⟨o,e,ex⟩:=z
   refine⟨⟨o,e,ex.1⟩,fun a e2=>?_⟩
   cases e2;exact⟨o,e,ex.2.1⟩
  .obtain⟨o,_,_,_,e,ex,_⟩:=I.hok p _ hk
   refine⟨⟨o,e,ex.1⟩,fun a e2=>?_⟩
   cases e2;exact⟨o,e,ex.2.1⟩
 |_=>exact False.elim ty
def tBM (K:FG) (T:String) (r:V->List V->Hp->VK->Prop) (to:TE) (t:TA):TE:=fun σ H Q=>to σ H fun x H1=>tyV K T x H1/\t σ H1 fun xs H2=>r x xs H2 Q
variable {o e:Expr} {es:List Expr} {to:TE} {t:TA} {name:Str} {apos cpos:Pos} {T id:String} {r:V->List V->Hp->VK->Prop}
def FE (pa:PlainAttrs T) (slot:Slot T name id) (hty:typeOf (.builtin id)=pure (.type "method_descriptor")) (hm:MtR X id r) (ho:PE X o to) (ha:PA X (e::es) t)
  (hbase:attributeBase o name X.env (eval o X.env)=eval o X.env:=by rfl)
  (hfew:((backTo cpos (starEach (e::es) X.env)).all (fun x=> !x.1) && (backToKw cpos (keywordEach [] X.env)).all (fun x=>x.1.isSome)
   && decide ((e::es).length+([]:List Keyword).length+(if ([]:List Keyword).isEmpty then 0 else 1)<30))=true:=by rfl)
  (hline:(apos.endLine==cpos.line)=true:=by rfl) (hs:SE X e es:=by rfl) (hplain:(backTo cpos (starEach es X.env)).any (·.1)=false:=by rfl):
  PE X (.Call (.Attribute o name apos) (e::es) [] cpos) (tBM X.K T r to t):=by
 intro pins s σ H Q I h
 refine wpAny_Call_method_late hbase hfew hline rfl (zp (ho pins s σ H _ I h) fun v s1 ⟨x,H1,I1,r1,ty,q1⟩=>?_)
 obtain⟨h1,h2⟩:=Mz I1 r1 ty
 refine⟨T,id,pa,slot,hty,h1,h2,?_⟩
 have hA:=ha cpos pins s1 σ H1 _ I1 q1;rw[hs]at hA ⊢
 refine Calls.callWith_builtin (by show (false || (backTo cpos (starEach es X.env)).any (·.1))=false;rw[hplain]<;>rfl) (Calls.evalArgs_plain ?_)
 exact zp hA fun us s2 ⟨vs,H2,I2,r2,q2⟩=>hm pins s2 σ H2 x vs v us Q I2 r1 r2 q2
end
def MtM (X:Cx) (id:String) (r:V->List V->Hp->VK->Prop):Prop:=
 ∀(pins:AL) (s:Shared) (σ:St) (H:Hp) (x:V) (xs:List V) (v:Value) (us:List Value) (Q:VK),Inv X pins σ H s->RelV x v->Vals xs us->r x xs H Q->
  wpAny (model X.prog X.w) X.A (call (.builtin id) (v::us)) (EP X pins σ Q) X.xe s
def Vals.one:∀{x:V} {us:List Value},Vals [x] us->∃u,us=[u]/\RelV x u
 |_,_,.cons r .nil=>⟨_,rfl,r⟩
theorem Vals.rep {xs:List V} {us:List Value} (h:Vals xs us):∀k:Nat,Vals (List.replicate k xs).flatten (List.replicate k us).flatten
 |0=>.nil
 |k+1=>by
  rw[Cg,Cg,Cp,Cp];exact Vals.append h (Vals.rep h k)
theorem IG (its:List Value):∀(k:Nat) (acc:List Value),
  List.foldl (fun x1 x2=>x1++x2) acc.toArray (List.replicate k its.toArray)=(acc++(List.replicate k its).flatten).toArray
 |0,acc=>by simp
 |k+1,acc=>by
  have e:acc.toArray++its.toArray=(acc++its).toArray:=by simp
  have e2:(acc++its)++(List.replicate k its).flatten=acc++(List.replicate (k+1) its).flatten:=by
   rw[Cg,Cp,List.append_assoc]
  rw[<-e2,<-IG its k (acc++its),<-e,Cg,List.foldl_cons]
section
variable {X:Cx} {pins:AL} {σ:St} {H:Hp} {s:Shared} {l b:Addr} {xs ys zs:List V}
def Inv.lset {its its':List Value} {n:Nat} {f:Array Value->Array Value} {t':Nat} (I:Inv X pins σ H s) (hH:H l=some (.lst xs))
  (e:s.heap.get? l=some {cls:= .type "list",data:= .seq its.toArray n}) (hf:f its.toArray=its'.toArray) (hv:Vals ys its') (hz:ys.length<=sizeLine):
  Inv X pins σ (zl H l (.lst ys)) {s with heap:=s.heap.update l (Obj.mapSeq f),toks:=t'}:=by
 have q:=PySem.IsL.update e f;rw[hf]at q
 refine I.write (x:=l) (e:=l) (by rw[hH];exact trivial) (.inl rfl) (fun b' u hb hu=>(D0 s.heap (Obj.mapSeq f) (Bl hb)).trans hu) ⟨_,q⟩ ?_
 exact⟨hz,its',_,hv,q⟩
def Inv.lnew {its:List Value} {t':Nat} (I:Inv X pins σ H s) (hv:Vals ys its) (hz:ys.length<=sizeLine):
  Inv X pins σ (zl H s.heap.objs.size (.lst ys)) {s with heap:=s.heap.push {cls:= .type "list",data:= .seq its.toArray},toks:=t'}:=
 I.laid (fun _ _ q=>Aq _ q) (Af _) ⟨hz,its,0,hv,A1 _ rfl⟩
theorem Inv.fresh (I:Inv X pins σ H s):H s.heap.objs.size=none:=I.hok.fresh (Af _)
def Inv.lstM (I:Inv X pins σ H s) (hH:H l=some (.lst xs)):xs.length<=sizeLine/\∃(its:List Value) (n:Nat),Vals xs its/\xs.length=its.length/\s.heap.get? l=some {cls:= .type "list",data:= .seq its.toArray n}:=by
 obtain⟨z,its,n,r,e⟩:=I.hok l _ hH;exact⟨z,its,n,r,r.length,e⟩
def M0 {n:Nat} (h:n<=sizeLine):Builtin.List.listTooLong n=false:=by
 unfold Builtin.List.listTooLong;exact Aj (by lia)
end
section
variable {X:Cx}
def IH:V->List V->Hp->VK->Prop:=fun x vs H Q=> ∃l xs y,x=.ref l/\vs=[y]/\H l=some (.lst xs)/\xs.length<sizeLine/\Q .non (zl H l (.lst (xs++[y])))
def AM:MtM X "list.append" IH:=by
 intro pins s σ H x vs v us Q I rx rv h;obtain⟨l,xs,y,rfl,rfl,hH,hz,q⟩:=h;cases rx;obtain⟨u,rfl,ru⟩:=rv.one;obtain⟨z,its,n,r,hl,e⟩:=I.lstM hH
 refine Ci F.slot_list_append ⟨_,e,rfl⟩ F.entry_list_append (F.args_list_append_2 _ _) (PySem.list_append l its.toArray n u (by rw[Ak];lia)) ⟨e,?_⟩
 refine⟨.non,_,I.lset (its':=its++[u]) hH e (by simp) (r.append (.cons ru .nil)) ?_,rfl,q⟩
 rw[Am,List.length_singleton];lia
def rCat:R2:=fun x y H Q=> ∃l b xs zs,x=.ref l/\y=.ref b/\H l=some (.lst xs)/\H b=some (.lst zs)/\xs.length+zs.length<=sizeLine/\∀p,H p=none->Q (.ref p) (zl H p (.lst (xs++zs)))
def M1:OpR X (binaryOp .Add) rCat:=by
 intro pins s σ H x y v u Q I rx ry h;obtain⟨l,b,xs,zs,rfl,rfl,hH,hB,hz,q⟩:=h;cases rx;cases ry;obtain⟨z,its,n,r,hl,e⟩:=I.lstM hH;obtain⟨z2,its2,n2,r2,hl2,e2⟩:=I.lstM hB
 refine PySem.P.add_list e e2 ?_ (by rw[Ak,Ak];lia)
 have ea:its.toArray++its2.toArray=(its++its2).toArray:=by simp
 rw[ea];exact⟨.ref _,_,I.lnew (t':=s.toks) (r.append r2) (by rw[Am];lia),rfl,q _ I.fresh⟩
def rRep:R2:=fun x y H Q=> ∃l k xs,x=.ref l/\y=.int k/\H l=some (.lst xs)/\ -(2 ^ 63)<=k/\k<2 ^ 63/\xs.length*k.toNat<=sizeLine/\
 ∀p,H p=none->Q (.ref p) (zl H p (.lst (List.replicate k.toNat xs).flatten))
def M3 {α:Type} (xs:List α) (k:Nat):(List.replicate k xs).flatten.length=k*xs.length:=by
 induction k with
 |zero=>simp
 |succ k ih=>rw[Cg,Cp,Am,ih,Nat.succ_mul,Nat.add_comm]
def M4:OpR X (binaryOp .Mult) rRep:=by
 intro pins s σ H x y v u Q I rx ry h;obtain⟨l,k,xs,rfl,rfl,hH,h1,h2,hz,q⟩:=h;cases rx;obtain⟨t,rfl⟩:=ry;obtain⟨z,its,n,r,hl,e⟩:=I.lstM hH;have hlen:its.toArray.size*k.toNat<=sizeLine:=by rw[Ak,<-hl];exact hz
 have hcap: ¬its.toArray.size*k.toNat > (2 ^ 63-1) / 8:=by
  have:(sizeLine:Nat)<=(2 ^ 63-1) / 8:=by decide
  lia
 have hfit: ¬(!Builtin.List.listFitsIndex k)=true:=by
  rw[fitsIndex_both h1 h2];exact Ao
 have hlong: ¬Builtin.List.listTooLong (its.toArray.size*k.toNat)=true:=by
  rw[M0 hlen];exact Ao
 have hnew:List.foldl (fun x1 x2=>x1++x2) #[] (List.replicate (if its.toArray.isEmpty=true then 0 else k.toNat) its.toArray)=(List.replicate k.toNat its).flatten.toArray:=by
  have f0:∀m:Nat,List.foldl (fun x1 x2=>x1++x2) #[] (List.replicate m its.toArray)=(List.replicate m its).flatten.toArray:=fun m=>by
   have:=IG its m [];rw[Cq]at this;exact this
  rw[f0];cases its with
  |nil=>simp
  |cons a r'=>rw[Ab (by simp)]
 refine wpAny_binaryOp_repeat_ref (T:="list") (U:="int") (by decide) ⟨_,e,rfl⟩ (fun s'=>typeIs_int s' k t) noFill_list_mul F.fills_int_mul F.slot_int_rmul repeat_list F.slot_int_index.lookup
  (Ci F.slot_int_rmul (typeIs_int s k t) F.entry_int_rmul (F.args_int_rmul_2 _ _) (int___rmul___int_list k t l its.toArray n)
   ⟨e,rfl,⟨_,e,rfl⟩,Ci F.slot_list_mul ⟨_,e,rfl⟩ F.entry_list_mul (F.args_list_mul_2 _ _) (AutoListH.list___mul___list_int_3 l its.toArray n k t hfit hcap hlong) ⟨e,?_⟩⟩)
 rw[hnew];exact⟨.ref _,_,I.lnew (t':=s.toks) (r.rep k.toNat) (by rw[M3,Nat.mul_comm];exact hz),rfl,q _ I.fresh⟩
end
section
variable {prog:Program} {w:World} {A:Around} {E:VP} {s:Shared}
set_option maxRecDepth 100000 in
end
end L2
namespace Att
open PySem PySem.W PySem.Calls PyProof.Rows
def M5 {P:Params} {h:Heap}:∀(ns:List Int) (vs:List Value),WellAll P h vs (ns.map WData.int)->IntsAre vs ns:=by
 intro ns
 induction ns with
 |nil=>
  intro vs w;rw[Bq]at w;cases w;exact .nil
 |cons n ns ih=>
  intro vs w;rw[Ax]at w;cases w with
  |cons a b=>
   cases a;exact .cons _ _ (ih _ b)
def M6 {l:OpenLaw} {n:Nat} (hn:l.most=some n) {P:Params} {h:Heap} {args:List WData} {vals:List Value}
  (hpre:l.row.toRowW.claim.pre args=true) (hwl:WellAll P h vals args):
  ∃a vs ns,vals=[Value.ref a]/\args=[WData.list (ns.map WData.int)]/\h.get? a=some {cls:= .type "list",data:= .seq vs.toArray}/\IntsAre vs ns/\ns.length<=n:=by
 have hsh:WShape.hasAll [] args [.list .int]=true:=(pre_splitW hpre).1;have hc:l.pre.holds [] {args:=args}=true:=(pre_splitW hpre).2;obtain⟨d,r,rfl,h1,h2⟩:=hasAllW_cons hsh;obtain rfl:=hasAllW_nil h2;obtain⟨xs,rfl,h3⟩:=hasW_list h1;obtain⟨ns,rfl⟩:=items_int h3;have hlen:ns.length<=n:=by
  unfold OpenLaw.pre at hc;have h4:(WTm.not (.lt (.lit (.int (n:Int))) (.len (.arg 0)))).holds [] {args:=[.list (ns.map .int)]}=true:=by
   have h4:=(holds_andW hc).1;rw[hn]at h4;exact h4
  have h5:=condW_of h4 (w_not (w_lt w_lit (w_len_list (w_arg rfl))));rw[Ah]at h5
  refine Nat.le_of_not_lt fun q=>?_
  have q':(n:Int)<((ns.length:Nat):Int):=by lia
  first
   | (rw[Bg q']at h5;exact absurd h5 (by decide))
   | (simp at h5;lia)
 cases hwl with
 |cons w1 w2=>
  cases w2;cases w1 with
  |list ho hall=>exact⟨_,_,ns,rfl,rfl,ho,M5 ns _ hall,hlen⟩
def M7 (l:OpenLaw) (args:List WData):l.row.toRowW.claim.post args (.bool true) args=true:=
 postW_of (r:=l.row.toRowW) (X:=(true==true))
  (show WShape.has [] (.bool true) .bool=true by first|rfl|decide|simp[WShape.has,WShape.arms,WShape.armsAll])
  (show (WTm.eq .res (.lit (.bool true))).value [] {args:=args,res:=some (.bool true),after:=args}=some (.bool (true==true)) from w_eq_bool (w_res rfl) w_lit) rfl
def attach_call {l:OpenLaw} {n:Nat} {q:Program} {loose:List Str} {XP:(Str->Option Value)->Heap->Prop} {YP:World->Heap->Prop} {d:DefRec}
  (hn:l.most=some n) (hdf:d.params.defaults=[])
  (call:∀(w:World) (s₀ s₁:Shared) (mg mb:Str->Option Value) (fa:Addr) (o:Obj) (pm cd doc:Value) (a:Addr) (vs:List Value) (ns:List Int),
   Ground q loose [] XP w s₀ mg mb s₁.heap->YP w s₁.heap->
   s₁.heap.get? fa=some o->o.data=.func (docDef d.name d.params d.body d.scope pm cd doc)->s₁.heap.CodeRec cd d.name->mg d.name=some (.ref fa)->
   s₁.heap.get? a=some {cls:= .type "list",data:= .seq vs.toArray}->IntsAre vs ns->ns.length<=n->s₁.gens= #[]->
   codeAny (model l.prog w) callerA (.call (.ref fa) ⟨[.ref a],[]⟩) (fun r s'=>r=.ok (.ret (.bool true))/\OldK s₁.heap s'.heap/\s'.os=s₁.os/\AllBare s'.gens) s₁):
  WalkO q loose XP YP l.row.toRowW d [] (fun f vs=>PySem.call f vs):=by
 intro w s₀ s₁ mg mb G Y fa o pm cd doc dV kV ho hd hcd hD hmg hg args vals as hpre hlay hrd hwl hlo;obtain rfl:dV=.none:=Dflts.none hD hdf;obtain rfl:kV=.none:=Dflts.noKw hD;obtain⟨a,vs,ns,rfl,rfl,hobj,hints,hlen⟩:=M6 hn hpre hwl
 refine enter_call (C2 (call w s₀ s₁ mg mb fa o pm cd doc a vs ns G Y ho (fd_plain hd) hcd hmg hobj hints hlen hg) fun r s' hq=>?_)
 obtain⟨rfl,h2,h3,h4⟩:=hq;exact⟨.inl ⟨.bool true,.bool true,[],rfl,fun _=>rfl,.bool true,M7 l _,fun _=>⟨List.Pairwise.nil,fun _ hm=>(nomatch hm)⟩⟩,h2,h3,h4⟩
end Att
namespace L2
open PySem PySem.Spec PyProof.Rows
theorem II:∀{vs:List Value} {ns:List Int},IntsAre vs ns->Vals (ns.map V.int) vs
 |_,_,.nil=>.nil
 |_,_,.cons n t h=>.cons ⟨t,rfl⟩ (II h)
def Only (H:Hp):Prop:=∀b,H b=none\/∃o xs,H b=some (.frz o (.lst xs))
def M8 {P:Program} {w:World} {K:FG} {mg mb:Str->Option Value} {CX:qV} {k:Nat} {fa a:Addr} {fd:FuncData} {x:Str} {sp:Sp} {s₁:Shared} {vs:List Value} {ns:List Int}
  (KX:K.In s₁.heap) (hns:s₁.heap.Ns mainGlobals mg) (hb:s₁.heap.Ns builtinsNs mb) (hbb:∀x:Str,x≠"__name__" ->mb x=bootBuiltins x) (hlim:s₁.heap.NoLimit) (hg:s₁.gens= #[])
  (ha:s₁.heap.get? a=some {cls:= .type "list",data:= .seq vs.toArray}) (hi:IntsAre vs ns) (hl:ns.length<=sizeLine) (hr:Room k callerA)
  (F:∀base:Heap,K.In base->base.Ns mainGlobals mg->FnOk P w K mg base CX k fa fd [x] sp) (hbind:∀(s:Shared) (u:Value),BindsTo s fd ⟨[u],[]⟩ [(x,u)])
  (hsp:∀H:Hp,Only H->SqL K H a (ns.map V.int)->sp [.ref a] H (fun v _=>v=.bl true) fun _ _ _=>False)
  (hCX:∀H e s',CX [] H s₁ (fun _ _ _=>False) e s'->False):
  codeAny (model P w) callerA (.call (.ref fa) ⟨[.ref a],[]⟩) (fun r s'=>r=.ok (.ret (.bool true))/\OldK s₁.heap s'.heap/\s'.os=s₁.os/\AllBare s'.gens) s₁:=by
 have rv:=II hi;have lenV:=hi.length;have core:∀H:Hp,Only H->SqL K H a (ns.map V.int)->HOk P w H s₁.heap->(∀b,H b≠none->b=a)->(H a≠none->K.lookup a=none)->
   codeAny (model P w) callerA (.call (.ref fa) ⟨[.ref a],[]⟩) (fun r s'=>r=.ok (.ret (.bool true))/\OldK s₁.heap s'.heap/\s'.os=s₁.os/\AllBare s'.gens) s₁:=by
  intro H hO hS hok hA hK;have base_of:∀{b:Addr} {o:Obj},s₁.heap.get? b=some o->H b=none->(hidT s₁.heap H).get? b=some o:=fun e n=>Lb e n
  have noA:∀{b:Addr} {o:Obj} {es:Array DictEntry} {ep:Nat},s₁.heap.get? b=some o->o.data=.dict es ep->H b=none:=fun {b o es ep} e d=>by
   cases q:H b with
   |none=>rfl
   |some u=>
    have e':b=a:=hA b (by rw[q];simp)
    subst e';rw[ha]at e;cases e;have d':Data.seq vs.toArray _=Data.dict es ep:=d;cases d'
  have nsK:∀{b:Addr} {m:Str->Option Value},s₁.heap.Ns b m->(hidT s₁.heap H).Ns b m:=fun {b m} ⟨o,es,ep,e,d,r⟩=>⟨o,es,ep,base_of e (noA e d),d,r⟩
  have hKb:K.In (hidT s₁.heap H):=fun b o e=>base_of (KX b o e) (by
   cases q:H b with
   |none=>rfl
   |some u=>
    have e':b=a:=hA b (by rw[q];simp)
    subst e';rw[hK (by rw[q];simp)]at e;cases e)
  have hM:Mod K mg (hidT s₁.heap H):=⟨hKb,nsK hns,⟨mb,nsK hb,hbb⟩,let ⟨mc,h1,h2⟩:=hlim;⟨mc,nsK h1,h2⟩⟩;have e0:Env0 P w K mg (hidT s₁.heap H) callerA [] s₁ H:=⟨rfl,hM,fun b o e=>Lc e,Nat.le_of_eq (La _ _),trivial,fun b hb=>absurd (show b∈([]:List Addr) from hb) (by simp),hok,.of_eq hg⟩
  refine C2 ((F _ hKb (nsK hns)).run callerA [] s₁ H ⟨[.ref a],[]⟩ [.ref a] [.ref a] _ _ hr e0 (hbind s₁ (.ref a)) (.cons rfl .nil) (hsp H hO hS)) fun r s' h=>?_
  cases r with
  |error e=>exact (hCX H e s' h).elim
  |ok fl=>
   cases fl with
   |next=>exact False.elim h
   |brk=>exact False.elim h
   |cont=>exact False.elim h
   |ret u=>
    obtain⟨v,H',os,bare,un,hok',r',q⟩:=h;have q':v=.bl true:=q;subst q';obtain rfl:u=Value.bool true:=r'
    refine⟨rfl,OldK.of_keep fun b o e=>?_,os,bare⟩
    cases q:H b with
    |none=>exact un.keep b o e q (by intro z;exact absurd (show b∈([]:List Addr) from z) (by simp)) (by simp)
    |some u=>
     rcases hO b with z|⟨ob,xs,z⟩
     .rw[q]at z;cases z
     .have z2:=un.frzs b ob _ z
      obtain⟨e1,_⟩:=hok b _ z;obtain⟨e2,_⟩:=hok' b _ z2;rw[e]at e1;cases e1;exact e2
 cases hk:K.lookup a with
 |some o=>
  have e:=KX a o hk;rw[ha]at e;cases e
  refine core (fun _=>none) (fun _=>.inl rfl) (.inr ⟨_,vs.toArray,_,hk,rfl,rfl,rfl,by rw[Ak,lenV];exact hl,by simpa using rv⟩) (fun b u z=>by have z':(none:Option HO)=some u:=z;cases z') (fun b z=>absurd rfl z) fun z=>absurd rfl z
 |none=>
  refine core (fun b=>if b=a then some (.frz {cls:= .type "list",data:= .seq vs.toArray} (.lst (ns.map V.int))) else none) (fun b=>?_) (.inl (.inr ⟨{cls:= .type "list",data:= .seq vs.toArray},Aa rfl⟩)) (fun b u z=>?_) (fun b z=>?_) fun _=>hk
  .by_cases hb:b=a
   .exact .inr ⟨_,_,Aa hb⟩
   .exact .inl (Ab hb)
  .by_cases hb:b=a
   .have z':=(Aa hb).symm.trans z
    cases z';subst hb;exact⟨ha,by rw[Ah];exact hl,vs,_,rv,ha⟩
   .have z':=(Ab hb).symm.trans z
    cases z'
  .by_cases hb:b=a
   .exact hb
   .exact absurd (Ab hb) z
def M9 (s:Stmt) (j:Nat):Stmt:=match s with
 |.ClassDef _ _ _ body _ _ _ _ _ _ _=>body.getD j (.Pass ⟨0,0,0,0⟩)
 |_=> .Pass ⟨0,0,0,0⟩
def EG (s:Stmt):Arguments:=match s with
 |.FunctionDef _ a _ _ _ _ _ _ _ _=>a
 |_=>{posonlyargs:=[],args:=[],vararg:=none,kwonlyargs:=[],kw_defaults:=[],kwarg:=none,defaults:=[]}
def CJ (s:Stmt):List Stmt:=match s with
 |.FunctionDef _ _ b _ _ _ _ _ _ _=>b
 |_=>[]
def zR (s:Stmt):Scope:=match s with
 |.FunctionDef _ _ _ _ _ _ sc _ _ _=>sc
 |_=>{kind:= .function,names:=[],isGenerator:=false,isCoroutine:=false}
abbrev E0:XK:=fun _ _ _=>False
structure Fun (K:FG) (x qual:Str) (st:Stmt) (f:Addr) (fd:FuncData):Prop where
 ex:∃(oc:Value) (od:Option Addr) (kV doc pm:Value) (an:Option Addr) (cdv ct:Value) (osl:Array (Option Value)),
  fd=PySem.W.fnOf x qual (EG st) (CJ st) (zR st) .none kV doc pm an cdv ct/\K.lookup f=some ⟨oc,od,.func fd,osl⟩/\PySem.W.codeIn K cdv qual=true
 kp:PySem.W.keepIn K (.ref f)=true
section
variable {P:Program} {w:World} {K:FG} {mg:Str->Option Value} {base:Heap}
def Fun.binds {x qual:Str} {st:Stmt} {f:Addr} {fd:FuncData} {ps:List Str} (F:Fun K x qual st f fd)
  (h:∀(kV doc pm:Value) (an:Option Addr) (cdv ct:Value) (us:List Value),us.length=ps.length->bindArgs (PySem.W.fnOf x qual (EG st) (CJ st) (zR st) .none kV doc pm an cdv ct) ⟨us,[]⟩=pure (ps.zip us)):Binds K fd ps []:=by
 obtain⟨oc,od,kV,doc,pm,an,cdv,ct,osl,rfl,lk,hcd⟩:=F.ex;exact .all (h kV doc pm an cdv ct)
end
def MA {n:Nat} (h:n<=1000):n<sizeLine:=Nat.lt_of_le_of_lt h (by decide)
section
variable {X:Cx}
def pv (i:Nat) {x:Str} {pos:Pos} (hN:X.N[i]? =some x:=by rfl) (hv:Vis X.env.scope x:=by first|exact Or.inl rfl|exact Or.inr (Or.inl rfl)|exact Or.inr (Or.inr rfl)) (hd:(x==("__debug__" :Str))=false:=by decide)
 (hcd:(x==("__classdict__" :Str))=false:=by decide):PE X (.Name x pos) (tVar i):=Lf hN hv hd hcd
end
end L2
set_option maxHeartbeats 0
namespace L2
open PySem PySem.Spec PyProof.Rows
def yA (X:Cx) (N:List Str) (scope:Scope) (cl:List (Str×Addr)) (C:Addr) (s:Shared) (H:Hp) (ex:List Addr):Cx where
 prog:=X.prog
 w:=X.w
 K:=X.K
 mg:=X.mg
 base:=X.base
 A:=X.A
 N:=N
 s₀:=s
 H₀:=H
 env:=compEnvC scope cl C X.env
 outer:=X.stack
 stack:=X.stack
 ex:=ex
 fn:=fun _=>false
 calm:=X.calm
 pn:=[]
 xe:=fun _ _=>False
theorem GL {env:Env}:∀(names:List (Str×NameKind)) (acc:List (Str×Addr)),(∀y∈names,y.2=.free->∃c,env.cells.lookup y.1=some c)->
  ∃cl,(forIn names acc (fun x cs=>match x with|(name,kind)=>if (kind==NameKind.free)=true then (do let a <-cellOf env name;pure (ForInStep.yield ((name,a)::cs))) else pure (ForInStep.yield cs)):Sem (List (Str×Addr)))=pure cl/\
   (∀p∈cl,p∈acc\/env.cells.lookup p.1=some p.2)/\(∀y∈names,y.2=.free->∃c,(y.1,c)∈cl)/\∀p∈acc,p∈cl
 | [],acc,_=>⟨acc,by rw[List.forIn_nil],fun p hp=>.inl hp,fun _ h=>(nomatch h),fun _ h=>h⟩
 | (n,k)::r,acc,h=>by
  rw[List.forIn_cons]
  by_cases hk:k=.free
  .subst hk
   obtain⟨c,hc⟩:=h (n,.free) An rfl;obtain⟨cl,e,h1,h2,h3⟩:=GL r ((n,c)::acc) fun y hy=>h y (Av _ hy)
   have ec:cellOf env n=pure c:=by unfold cellOf;rw[hc]
   refine⟨cl,?_,fun p hp=>?_,fun y hy hf=>?_,fun p hp=>h3 p (Av _ hp)⟩
   .simp only[Dj,Bb,ec,pure_bind]
    exact e
   .rcases h1 p hp with q|q
    .rcases Ae.mp q with rfl|q
     .exact .inr hc
     .exact .inl q
    .exact .inr q
   .rcases Ae.mp hy with rfl|hy
    .exact⟨c,h3 _ An⟩
    .exact h2 y hy hf
  .obtain⟨cl,e,h1,h2,h3⟩:=GL r acc fun y hy=>h y (Av _ hy)
   have hb:(k==NameKind.free)=false:=by simpa using hk
   refine⟨cl,?_,h1,fun y hy hf=>?_,h3⟩
   .simp only[hb,Cr,Bo,pure_bind]
    exact e
   .rcases Ae.mp hy with rfl|hy
    .exact absurd hf hk
    .exact h2 y hy hf
theorem IJ {α:Type}:∀{l:List (Str×α)} {x:Str} {c:α},(x,c)∈l->∃d,l.lookup x=some d
 | (y,e)::r,x,c,h=>by
  rw[Br];cases hb:x==y with
  |true=>exact⟨e,rfl⟩
  |false=>
   rcases Ae.mp h with q|q
   .cases q;simp at hb
   .exact IJ q
def FF {scope:Scope} {env:Env} (h:∀y∈scope.names,y.2=.free->∃c,env.cells.lookup y.1=some c):
  ∃cl,closureFor scope env=pure cl/\(∀x c,cl.lookup x=some c->env.cells.lookup x=some c)/\∀y∈scope.names,y.2=.free->∃c,cl.lookup y.1=some c:=by
 obtain⟨cl,e,h1,h2,_⟩:=GL (env:=env) scope.names [] h
 refine⟨cl,?_,fun x c q=>?_,fun y hy hf=>?_⟩
 .simp only[closureFor]
  rw[e];rfl
 .rcases h1 _ (B3 q) with z|z
  .cases z
  .exact z
 .obtain⟨c,hc⟩:=h2 y hy hf
  exact IJ hc
section
variable {prog:Program} {w:World} {A:Around} {R:Result->Shared->Prop} {s:Shared}
def MB {elt target iter:Expr} {ifs:List Expr} {scope:Scope} {pos:Pos} {it acc:Value} {env:Env} (I:Nat->Shared->Prop)
  (turn:∀n s,I n s->wpAny (model prog w) A (pyNext it) (fun r s₁=>match r with
   |none=>R (.ok .next) s₁
   |some v=>wpAny (model prog w) A (letOwnedTupleGo target it v) (fun _ s₁'=>wpAny (model prog w) A (assign target env v) (fun _ s₂=>
    wpAny (model prog w) A (forIn ifs true fun c r=>if r=true then do let ok <-isTrue c env (eval c env);pure (ForInStep.yield ok) else pure (ForInStep.yield r)) (fun ok s₃=>
     if ok=true then wpAny (model prog w) A (eval elt env) (fun x s₄=>
      wpAny (model prog w) A (call (.builtin "list.append") [acc,x]) (fun _ s₅=> ∃m,m<n/\I m s₅) (fun _ _=>False) s₄) (fun _ _=>False) s₃
     else ∃m,m<n/\I m s₃) (fun _ _=>False) s₂) (fun _ _=>False) s₁') (fun _ _=>False) s₁) (fun _ _=>False) s)
  (n:Nat) (h:I n s):codeAny (model prog w) A (.compLoop (.ListComp elt [⟨target,iter,ifs,0⟩] scope pos) 0 it acc env) R s:=by
 refine codeAny_loop rfl I (fun n s hI=>?_) n h
 show wpAny _ A ((compTurn (.ListComp elt [⟨target,iter,ifs,0⟩] scope pos) 0 it acc env).onRaise (fun x=>do noteFrame x env;theTreesLotGoes x)) _ _ s
 refine wpAny_noted ?_
 rw[compTurn_list]
 refine Ac (Cd (Ac (Aw (turn n s hI) (fun r s₁ h₁=>?_) fun _ _ f=>f.elim)))
 cases r with
 |none=>exact Ag h₁
 |some v=>
  refine Ac (Aw h₁ (fun _ s₁' h₁'=>?_) fun _ _ f=>f.elim)
  refine Ac (Aw h₁' (fun _ s₂ h₂=>Ac (Aw h₂ (fun ok s₃ h₃=>?_) fun _ _ f=>f.elim)) fun _ _ f=>f.elim)
  cases ok with
  |false=>exact Ag ⟨rfl,h₃⟩
  |true=>
   exact Ac (Ac (Aw h₃ (fun x s₄ h₄=>Ac (Aw h₄ (fun _ s₅ h₅=>Ag (Ag ⟨rfl,h₅⟩)) fun _ _ f=>f.elim)) fun _ _ f=>f.elim))
end
def qW (k:Nat) (fr:List Nat) (σ:St):St:=List.replicate k none++fr.map fun j=>(σ[j]?).join
structure CompScope (X:Cx) (loc free:List Str) (fr:List Nat) (scope:Scope):Prop where
 kind:scope.kind=.function
 cell:∀y∈scope.names,y.2≠ .cell
 names:∀y∈scope.names,y.2=.local->scope.names.lookup y.1=some .local
 frees:∀y∈scope.names,y.2=.free->X.env.kindOf y.1=some .cell\/X.env.kindOf y.1=some .free
 at_:∀(i j:Nat) (x:Str),fr[i]? =some j->free[i]? =some x->X.N[j]? =some x/\scope.names.lookup x=some .free
 len:fr.length=free.length
theorem IK {env:Env}:∀{names:List (Str×NameKind)} {x:Str},(∀y∈names,y.2≠ .cell)->
    ((names.map fun (n,k)=>if (k==NameKind.free && env.scope.kind== .function && env.kindOf n==some .cell) then (n,NameKind.cell) else (n,k)).lookup x=some .cell\/
     (names.map fun (n,k)=>if (k==NameKind.free && env.scope.kind== .function && env.kindOf n==some .cell) then (n,NameKind.cell) else (n,k)).lookup x=some .free)->names.lookup x=some .free
  | [],_,_,h=>by simp at h
  | (n,k)::r,x,hc,h=>by
    have ih:= @IK env r x fun y hy=>hc y (Av _ hy)
    rw[Ax]at h;rw[Br];cases hx:x==n with
    |true=>
      have hk:k≠ .cell:=hc (n,k) An;dsimp only at h ⊢
      by_cases hb:(k==NameKind.free && env.scope.kind== .function && env.kindOf n==some .cell)=true
      · have:k=.free:=by
          rw[Be,Be]at hb;simpa using hb.1.1
        rw[this]
      · rw[Ab hb,Br,hx]at h
        rcases h with h|h
        · have:k=.cell:=Option.some.inj h
          exact absurd this hk
        · exact h
    |false=>
      dsimp only at h ⊢
      refine ih ?_
      by_cases hb:(k==NameKind.free && env.scope.kind== .function && env.kindOf n==some .cell)=true
      · rw[Aa hb,Br,hx]at h;exact h
      · rw[Ab hb,Br,hx]at h;exact h
theorem IL {env:Env}:∀{names:List (Str×NameKind)} {x:Str},names.lookup x=some .free->
    ((names.map fun (n,k)=>if (k==NameKind.free && env.scope.kind== .function && env.kindOf n==some .cell) then (n,NameKind.cell) else (n,k)).lookup x=some .cell\/
     (names.map fun (n,k)=>if (k==NameKind.free && env.scope.kind== .function && env.kindOf n==some .cell) then (n,NameKind.cell) else (n,k)).lookup x=some .free)
  | [],_,h=>by simp at h
  | (n,k)::r,x,h=>by
    have ih:= @IL env r x;rw[Ax];rw[Br]at h;cases hx:x==n with
    |true=>
      rw[hx]at h;have hk:k=.free:=Option.some.inj h;subst hk;dsimp only
      by_cases hb:(NameKind.free==NameKind.free && env.scope.kind== .function && env.kindOf n==some .cell)=true
      · rw[Aa hb,Br,hx];exact .inl rfl
      · rw[Ab hb,Br,hx];exact .inr rfl
    |false=>
      rw[hx]at h;have:=ih h;dsimp only
      by_cases hb:(k==NameKind.free && env.scope.kind== .function && env.kindOf n==some .cell)=true
      · rw[Aa hb,Br,hx];exact this
      · rw[Ab hb,Br,hx];exact this
section
variable {X:Cx} {pins:AL} {σ:St} {H:Hp} {s:Shared}
def IM {loc free:List Str} {fr:List Nat} {scope:Scope} {cl:List (Str×Addr)} {h1:Heap} {t1:Nat} {fp:List Addr} (S:CompScope X loc free fr scope) (I:Inv X pins σ H s)
  (hc1:∀x c,cl.lookup x=some c->X.env.cells.lookup x=some c) (hc2:∀y∈scope.names,y.2=.free->∃c,cl.lookup y.1=some c)
  (hns:h1.Ns s.heap.objs.size (fun _=>none)) (hk:∀b o,s.heap.get? b=some o->h1.get? b=some o)
  (hfp:∀b∈fp,yz X pins H b) (hfo:∀b∈fp,∃o,s.heap.get? b=some o):
  Inv (yA X (loc++free) scope cl s.heap.objs.size s H fp) [] (qW loc.length fr σ) H {s with heap:=h1,toks:=t1}:=by
 have fpb:∀b∈fp,b<s.heap.objs.size:=fun b hb=>let ⟨o,e⟩:=hfo b hb;Ad e
 refine⟨⟨I.ok.mod,S.kind,I.ok.glob,I.ok.blt,Af _,fun x y c e1 e2=>I.ok.inj x y c (hc1 _ _ e1) (hc1 _ _ e2),fun x hx=>?_,fun x c f=>(nomatch f),I.ok.hd,I.ok.frames,.inl rfl,fun b hb=>?_,I.bs,Bc I.ok.bsz I.sz,fun b o e hb=>?_,fun b hb z=>?_,I.stack,I.stkFree⟩,
  rfl,I.bare,Un.kept hk,⟨_,hns,fun i x v e1 e2 e3=>?_⟩,fun x c e=>?_,I.hok.fresh (Af _),fun x c e=>I.freeC x c (hc1 x c e),fun p hp=>absurd (show p∈([]:AL) from hp) (by simp),I.hok.kept hk,?_⟩
 .have q:scope.names.lookup x=some .free:=IK S.cell hx
  exact hc2 (x,.free) (B3 q) rfl
 .exact⟨Ap (fpb b hb),fun x c e=>(hfp b hb).2.2.2.2.1 x c (hc1 x c e)⟩
 .rcases (hfp b hb).2.2.2.1 with z|z
  .exact I.ok.noex b o e z
  .exact absurd (Ar (Ad e) (Bc I.ok.bsz z)) (Bi _)
 .rcases Ae.mp (I.stkSub b z) with e|e
  .exact (hfp b hb).2.1 e
  .exact (hfp b hb).2.2.1 e
 .have e1':(loc++free)[i]? =some x:=e1
  unfold qW at e2
  by_cases hi:i<loc.length
  .rw[A8 (by simpa using hi),Dx]at e2
   rw[Aa hi]at e2;cases e2
  .have hi':loc.length<=i:=Nat.le_of_not_lt hi
   rw[Bp (by simpa using hi'),B7,A2]at e2
   rw[Bp hi']at e1';cases hj:fr[i-loc.length]? with
   |none=>rw[hj]at e2;cases e2
   |some j=>
    rw[hj]at e2;have e2':(σ[j]?).join=some v:=Option.some.inj e2;obtain⟨n1,n2⟩:=S.at_ _ j x hj e1';have e4:σ[j]? =some (some v):=by
     cases q:σ[j]? with
     |none=>rw[q]at e2';cases e2'
     |some z=>rw[q]at e2';exact congrArg some e2'
    have kf:=S.frees (x,.free) (B3 n2) rfl;obtain⟨m,hn,hl⟩:=I.loc;obtain⟨u,r,l⟩:=hl j x v n1 e4 (kf.elim (fun z=>.inr (.inl z)) fun z=>.inr (.inr z))
    refine⟨u,r,.inr ⟨IL n2,?_⟩⟩
    obtain⟨c,hc⟩:=hc2 (x,.free) (B3 n2) rfl;have hcx:=hc1 x c hc
    rcases l with ⟨hk',_⟩|⟨_,c',hc',hcell⟩
    .rcases kf with z|z<;>(rw[hk']at z;cases z)
    .rw[hcx]at hc'
     cases hc';obtain⟨o,ho,hd⟩:=hcell;exact⟨c,hc,o,hk _ _ ho,hd⟩
 .obtain⟨v,o,ho,hd⟩:=I.cell x c (hc1 x c e)
  exact⟨v,o,hk _ _ ho,hd⟩
 .show (qW loc.length fr σ).length=(loc++free).length
  unfold qW;rw[Am,B7,Ah,Am,S.len]
abbrev MC (J:It) (g:TG) (tc:TT) (te:TE) (σ0:St) (H:Hp) (Q:VK) (D:Addr):Prop:=
 ∃W:Nat->Nat->List V->St->Hp->Prop,(∃m,W 0 m [] σ0 (zl H D (.lst [])))/\∀i m acc σ' H',W i m acc σ' H'->H' D=some (.lst acc)/\
  ((J.stop i H'/\Q (.ref D) H')\/(J.go i H'/\∃N:List V->St->Hp->Prop,(∀acc' σ3 H5,N acc' σ3 H5->∃m',m' < m/\W (i+1) m' acc' σ3 H5)/\∀x H2,J.yld i H' x H2->g x σ' H2 fun σ3 H3=>tc σ3 H3 fun b H4=>
   if b=true then te σ3 H4 fun v H5=>H5 D=some (.lst acc)/\acc.length<sizeLine/\N (acc++[v]) σ3 (zl H5 D (.lst (acc++[v])))
   else N acc σ3 H4))
def BG (wi:TI) (k:Nat) (fr:List Nat) (g:TG) (tc:TT) (te:TE):TE:=fun σ H Q=>wi σ H fun J H1=> ∀D,H1 D=none->MC J g tc te (qW k fr σ) H1 Q D
def MD:TT:=fun _ H Q=>Q true H
def jb (X:Cx) (ifs:List Expr) (t:TT):Prop:=
 ∀(pins:AL) (s:Shared) (σ:St) (H:Hp) (Q:Bool->Hp->Prop),Inv X pins σ H s->t σ H Q->
  wpAny (model X.prog X.w) X.A (forIn ifs true fun c r=>if r=true then do let ok <-isTrue c X.env (eval c X.env);pure (ForInStep.yield ok) else pure (ForInStep.yield r)) (TP X pins σ Q) X.xe s
def ME:jb X [] MD:=fun pins s σ H Q I h=>wpAny_tests_nil ⟨H,I,h⟩
structure CompEnd (X:Cx) (pins:AL) (σ:St) (Q:VK) (D C:Addr) (s6:Shared):Prop where
 inv:∃H5,Inv X pins σ H5 s6/\H5 C=none/\Q (.ref D) H5
 ns:∃m,s6.heap.Ns C m
 neL:C≠X.env.locals
 nfs:C∉X.fs
 new:X.s₀.heap.objs.size<=C
 cel:∀x c,X.env.cells.lookup x=some c->c≠C
 pin:∀p∈X.pn++pins,p.1≠C
def IQ {elt tg iter:Expr} {ifs:List Expr} {loc free:List Str} {fr:List Nat} {scope:Scope} {pos:Pos} {wi:TI} {g:TG} {tc:TT} {te:TE} (hc:X.calm=true) (S:CompScope X loc free fr scope) (hi:PI X tg iter wi)
  (hg:∀cl C s H ex,PG (yA X (loc++free) scope cl C s H ex) tg g) (ht:∀cl C s H ex,jb (yA X (loc++free) scope cl C s H ex) ifs tc) (he:∀cl C s H ex,PE (yA X (loc++free) scope cl C s H ex) elt te)
  (I:Inv X pins σ H s) {Q:VK} (h:BG wi loc.length fr g tc te σ H Q) {cl:List (Str×Addr)} (hc1:∀x c,cl.lookup x=some c->X.env.cells.lookup x=some c) (hc2:∀y∈scope.names,y.2=.free->∃c,cl.lookup y.1=some c)
  {RR:Value->Addr->Result->Shared->Prop} (hRR:∀D C s6,CompEnd X pins σ Q D C s6->RR (.ref D) C (.ok .next) s6):
  wpAny (model X.prog X.w) X.A (eval iter X.env) (fun x s1=>wpAny (model X.prog X.w) X.A (pyIter x) (fun it s2=>wpAny (model X.prog X.w) X.A (newList []) (fun acc s3=>
   wpAny (model X.prog X.w) X.A (newFunctionEnv scope X.env.globals cl [] X.env.qual none .none (some X.env)) (fun cenv s4=>
    codeAny (model X.prog X.w) X.A (.compStart (.ListComp elt [⟨tg,iter,ifs,0⟩] scope pos) 0 it acc {cenv with scope:=relabel scope X.env}) (RR acc cenv.locals) s4) X.xe s3) X.xe s2) X.xe s1) X.xe s:=by
 refine zp (hi pins s σ H _ I h) fun v s1 h1=>zp h1 fun itv s2 h2=>?_
 obtain⟨it,fp,tn,J,H2,e,I2,T,st2,f2,q2⟩:=h2;subst e;have hD:H2 s2.heap.objs.size=none:=I2.hok.fresh (Af _);obtain⟨W,⟨m0,w0⟩,turn⟩:=q2 s2.heap.objs.size hD
 refine Co ?_
 generalize hs3:({s2 with heap:=s2.heap.push {cls:= .type "list",dict:=none,data:= .seq ([]:List Value).toArray}}:Shared)=s3
 have I3:Inv X pins σ (zl H2 s2.heap.objs.size (.lst [])) s3:=by
  rw[<-hs3];exact I2.lnew (its:=[]) (t':=s2.toks) .nil (Bk _)
 have k23:∀b o,s2.heap.get? b=some o->s3.heap.get? b=some o:=fun b o q=>by rw[<-hs3];exact Aq _ q
 have f3:∀b∈fp,yz X pins (zl H2 s2.heap.objs.size (.lst [])) b:=fun b hb=>by
  obtain⟨o,e,_⟩:=T.obj _ _ st2 b hb;exact⟨by rw[zI (Ap (Ad e))];exact (f2 b hb).1,(f2 b hb).2⟩
 have o3:∀b∈fp,∃o,s3.heap.get? b=some o:=fun b hb=>let ⟨o,e,_⟩:=T.obj _ _ st2 b hb;⟨o,k23 b o e⟩
 have st3:tn 0 s3.heap:=T.keep _ _ _ st2 fun b _ o e=>k23 b o e
 refine wpAny_newFunctionEnv S.cell (by intro y hy;simp at hy) (fun h4 hns hsb=>?_) S.kind
 try dsimp only at hns hsb ⊢
 have k34:∀b o,s3.heap.get? b=some o->h4.get? b=some o:=fun b o q=>hsb.extBut b o (Ap (Ad q)) (Aq _ q)
 have I4:=IM (t1:=s3.toks+([]:List (Str×Value)).length) S I3 hc1 hc2 hns k34 f3 o3;have hgC:=hg cl s3.heap.objs.size s3 (zl H2 s2.heap.objs.size (.lst [])) fp;have htC:=ht cl s3.heap.objs.size s3 (zl H2 s2.heap.objs.size (.lst [])) fp;have heC:=he cl s3.heap.objs.size s3 (zl H2 s2.heap.objs.size (.lst [])) fp;have st4:tn 0 h4:=T.keep _ _ _ st3 fun b _ o e=>k34 b o e
 generalize hY:yA X (loc++free) scope cl s3.heap.objs.size s3 (zl H2 s2.heap.objs.size (.lst [])) fp=Y at I4 hgC htC heC;have fY:∀{H':Hp},(∀b∈fp,H' b=none)->∀b∈fp,yz Y [] H' b:=fun hn b hb=>by
  subst hY
  refine⟨hn b hb,?_,fun z=>?_,.inl hb,fun x c e=>(f3 b hb).2.2.2.2.1 x c (hc1 x c e),fun p hp=>absurd (show p∈([]:AL) from hp) (by simp)⟩
  .obtain⟨o,e⟩:=o3 b hb
   exact Ap (Ad e)
  .rcases Ae.mp (I3.stkSub b z) with e|e
   .exact (f3 b hb).2.1 e
   .exact (f3 b hb).2.2.1 e
 have hYp:Y.prog=X.prog:=by rw[<-hY];rfl
 have hYw:Y.w=X.w:=by rw[<-hY];rfl
 have hYK:Y.K=X.K:=by rw[<-hY];rfl
 have hYA:Y.A=X.A:=by rw[<-hY];rfl
 have hYe:Y.env=compEnvC scope cl s3.heap.objs.size X.env:=by rw[<-hY];rfl
 have hYx:Y.xe=fun _ _=>False:=by rw[<-hY];rfl
 have hYc:Y.calm=true:=by rw[<-hY];exact hc
 have loop:codeAny (model X.prog X.w) X.A (.compLoop (.ListComp elt [⟨tg,iter,ifs,0⟩] scope pos) 0 (.ref it) (.ref s2.heap.objs.size) (compEnvC scope cl s3.heap.objs.size X.env))
   (RR (.ref s2.heap.objs.size) s3.heap.objs.size) {s3 with heap:=h4,toks:=s3.toks+([]:List (Str×Value)).length}:=by
  refine MB (fun n s'=> ∃i acc σ' H',Inv Y [] σ' H' s'/\tn i s'.heap/\(∀b∈fp,H' b=none)/\W i n acc σ' H') ?_ m0 ⟨0,[],_,_,I4,st4,fun b hb=>(f3 b hb).1,w0⟩
  rintro n s5 ⟨i,acc,σ5,H5,I5,st5,fr5,w5⟩;obtain⟨hacc,turn5⟩:=turn i n acc σ5 H5 w5
  rcases turn5 with ⟨stop,qn⟩|⟨go,N,hN,step⟩
  .have d:=T.done Y hYp hYw hYK hYc i [] s5 σ5 H5 (fun _ _=>False) I5 (fY fr5) st5 stop
   rw[hYA]at d
   refine zp d fun r s6 ⟨hr,I6⟩=>?_
   subst hr;obtain⟨m,hn,_⟩:=id I6.loc;rw[hYe]at hn;have fC:H5 s3.heap.objs.size=none:=by
    have:=I6.free;rw[hYe]at this;exact this
   have hok6:HOk X.prog X.w H5 s6.heap:=by
    have:=I6.hok;rw[hYp,hYw]at this;exact this
   have un6:Un (zS X.stack) fp (zl H2 s2.heap.objs.size (.lst [])) H5 s3.heap s6.heap:=by
    have:=I6.base;subst hY;exact this
   have os6:s6.os=s3.os:=by
    have:=I6.os;subst hY;exact this
   have IX:Inv X pins σ H5 s6:=I3.call' (ch:=fp) os6 un6 hok6 I6.bare fun b hb=>⟨(f3 b hb).2.2.2.1,(f3 b hb).2.1,(f3 b hb).2.2.2.2.1,(f3 b hb).2.2.2.2.2⟩
   refine hRR _ _ s6 ⟨⟨H5,IX,fC,qn⟩,⟨m,hn⟩,B0 I3.lt,I3.nofs (Af _),I3.sz,fun x c e z=>?_,fun p hp z=>?_⟩
   .obtain⟨v,q⟩:=I3.cell x c e
    exact absurd q.lt (by rw[z];exact Bi _)
   .exact absurd (Ad (I3.pin p hp).1) (by rw[z];exact Bi _)
  .have d:=T.item Y hYp hYw hYK hYc i [] s5 σ5 H5 (fun _ _=>False) I5 (fY fr5) st5 go
   rw[hYA]at d
   refine zp d fun r s6 ⟨u,hr,h6⟩=>?_
   subst hr
   refine zp h6 fun _ s7 ⟨x,H7,I7,r7,y7,st7,fr7⟩=>?_
   have I7':=I7.pinned (fY fr7) (T.obj _ _ st7);have g7:=hgC _ s7 σ5 H7 x u _ I7' r7 (step x H7 y7);rw[hYp,hYw,hYA,hYe,hYx]at g7
   refine zp g7 fun _ s8 ⟨σ8,H8,I8,q8⟩=>?_
   have t8:=htC _ s8 σ8 H8 _ I8 q8;rw[hYp,hYw,hYA,hYe,hYx]at t8;have back:∀{σ9:St} {H9:Hp} {s9:Shared} {acc':List V},Inv Y ([]++jw fp s7.heap) σ9 H9 s9->N acc' σ9 H9->∃m,m<n/\∃i acc σ' H',Inv Y [] σ' H' s9/\tn i s9.heap/\(∀b∈fp,H' b=none)/\W i m acc σ' H':=fun {σ9 H9 s9 acc'} I9 w9=>by
    obtain⟨m',hm,w9⟩:=hN _ _ _ w9
    refine⟨m',hm,i+1,acc',σ9,H9,I9.unpinned,T.keep _ _ _ st7 fun b hb o e=>(I9.pin (b,o) (Au _ (Au _ (CH hb e)))).1,fun b hb=>?_,w9⟩
    obtain⟨o,e,d⟩:=T.obj _ _ st7 b hb;exact (I9.pin (b,o) (Au _ (Au _ (CH hb e)))).2.1
   refine zp t8 fun ok s9 ⟨H9,I9,q9⟩=>?_
   cases ok with
   |false=>
    rw[Ab (by simp)]at q9 ⊢
    exact back I9 q9
   |true=>
    rw[Aa rfl]at q9 ⊢;have e9:=heC _ s9 σ8 H9 _ I9 q9;rw[hYp,hYw,hYA,hYe,hYx]at e9
    refine zp e9 fun y s10 ⟨z,H10,I10,r10,hacc10,hlen,w10⟩=>?_
    have a10:=AM (X:=Y) _ s10 σ8 H10 (.ref s2.heap.objs.size) [z] (.ref s2.heap.objs.size) [y] (fun _ H'=>N (acc++[z]) σ8 H') I10 rfl (.cons r10 .nil) ⟨_,_,z,rfl,rfl,hacc10,hlen,w10⟩
    rw[hYp,hYw,hYA,hYx]at a10;exact zp a10 fun _ s11 ⟨_,H11,I11,_,w11⟩=>back I11 w11
 exact codeAny_compStart_list loop (T.self X.A 0 _ _ _ st4 loop)
def MF {elt tg iter:Expr} {ifs:List Expr} {loc free:List Str} {fr:List Nat} {scope:Scope} {pos:Pos} {wi:TI} {g:TG} {tc:TT} {te:TE} (hc:X.calm=true) (S:CompScope X loc free fr scope) (hi:PI X tg iter wi)
  (hg:∀cl C s H ex,PG (yA X (loc++free) scope cl C s H ex) tg g) (ht:∀cl C s H ex,jb (yA X (loc++free) scope cl C s H ex) ifs tc) (he:∀cl C s H ex,PE (yA X (loc++free) scope cl C s H ex) elt te)
  (hs:∀x,foldedSetIterable iter X.env x=pure x:=by intro _;rfl):PE X (.ListComp elt [⟨tg,iter,ifs,0⟩] scope pos) (BG wi loc.length fr g tc te):=by
 intro pins s σ H Q I h;rw[eval_ListComp];obtain⟨cl,hcl,hc1,hc2⟩:=FF (scope:=scope) (env:=X.env) fun y hy hf=>I.ok.has y.1 (S.frees y hy hf)
 refine wpAny_comprehension_free (use:=none) rfl hs hcl S.kind S.names ?_
 refine IQ (RR:=fun acc C=>compPost (model X.prog X.w) X.A X.xe none (EP X pins σ Q) acc C) hc S hi hg ht he I h hc1 hc2 fun D C s6 ce=>?_
 obtain⟨H5,IX,fC,q⟩:=ce.inv;obtain⟨m,hn⟩:=ce.ns;exact⟨m,hn,fun h7 hs7=>⟨.ref D,H5,IX.turned (t':=s6.toks) (fun b o hb e=>hs7.extBut b o hb e) fC ce.neL (.inr ce.new) ce.cel ce.pin,rfl,q⟩⟩
def MG {i:Nat} {y:Str} {py:Pos} {spos:Pos} {elt tg iter:Expr} {ifs:List Expr} {loc free:List Str} {fr:List Nat} {scope:Scope} {pos:Pos} {wi:TI} {g:TG} {tc:TT} {te:TE} (hN:X.N.Nodup) (hi':X.N[i]? =some y) (hx:X.env.scope.names.lookup y=some .local)
  (hc:X.calm=true) (S:CompScope X loc free fr scope) (hi:PI X tg iter wi)
  (hg:∀cl C s H ex,PG (yA X (loc++free) scope cl C s H ex) tg g) (ht:∀cl C s H ex,jb (yA X (loc++free) scope cl C s H ex) ifs tc) (he:∀cl C s H ex,PE (yA X (loc++free) scope cl C s H ex) elt te)
  (hs:∀x,foldedSetIterable iter X.env x=pure x:=by intro _;rfl)
  (hsw:swapsWith (.ListComp elt [⟨tg,iter,ifs,0⟩] scope pos) (some (.Name y py)) spos.line X.env=pure true:=by rfl):
  PS X (.Assign [.Name y py] (.ListComp elt [⟨tg,iter,ifs,0⟩] scope pos) spos) (tAsg (BG wi loc.length fr g tc te) (DN i)):=by
 intro pins s σ H D I h;obtain⟨cl,hcl,hc1,hc2⟩:=FF (scope:=scope) (env:=X.env) fun y hy hf=>I.ok.has y.1 (S.frees y hy hf)
 rw[exec_Assign_Name_used _ _ _ _ hsw]
 refine Ac (Cd (Ac ?_))
 show wpAny _ X.A (do let _ <-comprehension (.ListComp elt [⟨tg,iter,ifs,0⟩] scope pos) scope X.env _ (newList []) false (eval iter X.env) (some (assign (.Name y py) X.env))) _ _ s
 refine Ac (Aw (wpAny_comprehension_free (use:=some (assign (.Name y py) X.env)) (Q:=fun _ s'=>SP X pins D .next s') rfl hs hcl S.kind S.names ?_) (fun _ s' hq=>Ag (Ag hq)) fun _ _ e=>e)
 refine IQ (RR:=fun acc C=>compPost (model X.prog X.w) X.A X.xe (some (assign (.Name y py) X.env)) (fun _ s'=>SP X pins D .next s') acc C) hc S hi hg ht he I h hc1 hc2 fun L C s6 ce=>?_
 obtain⟨H5,IX,fC,q⟩:=ce.inv;obtain⟨m,oC,es,ep,ho,hd,hk⟩:=ce.ns;show wpAny _ X.A (assign (.Name y py) X.env (.ref L)) _ _ s6;have IP:Inv X (pins++[(C,oC)]) σ H5 s6:=IX.pins_of fun p hp=>(A0.mp hp).elim (fun z=>IX.pin p (Au _ z)) fun z=>by
  rw[Ay.mp z];exact⟨ho,fC,ce.neL,ce.nfs,fun v e=>by rw[hd]at e;cases e⟩
 refine wpAny_assign_Name (E8 IP hN hi' (.inl hx) (v:= .ref L) rfl (fun s' I'=>?_) (.inr hx))
 have pc:=I'.pin (C,oC) (Au _ (Au _ An))
 refine⟨m,⟨oC,es,ep,pc.1,hd,hk⟩,fun h7 hs7=>?_⟩
 exact⟨_,H5,I'.unpinned.turned (t':=s'.toks) (fun b o hb e=>hs7.extBut b o hb e) fC ce.neL (.inr ce.new) ce.cel ce.pin,q⟩
end
section
variable {X:Cx} {pins:AL} {σ:St} {H:Hp} {s:Shared} {h':Heap}
def Inv.turnLay {ch:List Addr} {a:Addr} {o:HO} {t':Nat} (I:Inv X pins σ H s) (k:∀b u,b∉ch->s.heap.get? b=some u->h'.get? b=some u) (hch:∀b∈ch,yz X pins H b)
  (hp:s.heap.objs.size<=a) (new:ObjOk X.prog X.w (zl H a o) h' a o):Inv X pins σ (zl H a o) {s with heap:=h',toks:=t'}:=by
 have hn:H a=none:=I.hok.fresh hp;have ne:∀b u,s.heap.get? b=some u->b≠a:=fun b u e=>Ap (Ar (Ad e) hp)
 have nc:∀b u,H b=some u->b∉ch:=fun b u e hb=>by have:=(hch b hb).1;rw[e]at this;cases this
 refine I.step (g':=s.gens) (d':=s.drawn) (ch:=ch) (fun b hb=>⟨(hch b hb).2.2.2.1,(hch b hb).2.1,(hch b hb).2.2.2.2.1,(hch b hb).2.2.2.2.2⟩) (fun b u _ _ hc e _=>k b u hc e) (fun b u _ _ hc e _=>⟨u.slots,k b u hc e⟩)
  (fun b u _ e n=>by rw[zI (ne b u e)];exact n) (fun b u hc e=>⟨u,k b u hc e⟩) (fun b xs e=>by rw[zI (yR e hn)];exact e) (fun b u v e=>by rw[zI (yR e hn)];exact e)
  (fun b ps e=>⟨#[],by rw[zI (yR e hn)];rw[e];simp⟩) (fun m hm=>?_) (fun b u e=>?_) I.bare
 .obtain⟨ob,es,ep,ho,r⟩:=hm
  refine⟨ob,es,ep,k _ ob (fun hb=>(hch _ hb).2.1 rfl) ho,r⟩
 .by_cases hb:b=a
  .subst hb;rw[yQ]at e;cases e;exact new
  .rw[zI hb]at e
   refine (I.hok b u e).stay (fun c v hc q=>k c v ?_ q) (fun c q=>by rw[zI (yR q hn)];exact q) fun c xs q=>by rw[zI (yR q hn)];exact q
   rcases hc with z|z
   .rw[z];exact nc b u e
   .exact nc c _ z
def Inv.turnedL {ch:List Addr} {t':Nat} (I:Inv X pins σ H s) (k:∀b u,b∉ch->s.heap.get? b=some u->h'.get? b=some u) (hch:∀b∈ch,yz X pins H b):Inv X pins σ H {s with heap:=h',toks:=t'}:=by
 have nc:∀b u,H b=some u->b∉ch:=fun b u e hb=>by have:=(hch b hb).1;rw[e]at this;cases this
 refine I.step (g':=s.gens) (d':=s.drawn) (ch:=ch) (fun b hb=>⟨(hch b hb).2.2.2.1,(hch b hb).2.1,(hch b hb).2.2.2.2.1,(hch b hb).2.2.2.2.2⟩) (fun b u _ _ hc e _=>k b u hc e) (fun b u _ _ hc e _=>⟨u.slots,k b u hc e⟩)
  (fun b u _ e n=>n) (fun b u hc e=>⟨u,k b u hc e⟩) (fun b xs e=>e) (fun b u v e=>e) (fun b ps e=>⟨#[],by rw[e];simp⟩) (fun m hm=>?_) (fun b u e=>?_) I.bare
 .obtain⟨ob,es,ep,ho,r⟩:=hm
  refine⟨ob,es,ep,k _ ob (fun hb=>(hch _ hb).2.1 rfl) ho,r⟩
 .refine (I.hok b u e).stay (fun c v hc q=>k c v ?_ q) (fun c q=>q) fun c xs q=>q
  rcases hc with z|z
  .rw[z];exact nc b u e
  .exact nc c _ z
end
section
variable {X:Cx}
def MH:yM X (.builtin "isinstance") (fun xs H Q=> ∃x T t b,xs=[x,.ty T]/\TyOf X.K H x t/\PySem.W.kitOne X.K t (.type T)=some b/\Q (.bl b) H):=by
 intro pins s σ H xs us Q I r h;obtain⟨x,T,t,b,rfl,ty,e,q⟩:=h;obtain⟨u,v,rfl,rx,ry⟩:=EE r;cases ry;exact LX I rx ty e fun tk=>⟨.bl b,H,I.tok tk,rfl,q⟩
def IS {A:Around} (h:A.handled=none):A.in1.handled=none:=h
def MI (hc:X.calm=true):yM X (.builtin "all") (fun xs H Q=> ∃(p:Addr) (bs:List Bool),xs=[.ref p]/\SqL X.K H p (bs.map V.bl)/\Q (.bl (bs.all id)) H):=by
 intro pins s σ H xs us Q I r h;obtain⟨p,bs,rfl,hq,q⟩:=h;obtain⟨u,rfl,rx⟩:=qP r;cases rx;obtain⟨its,rv,pl,hz⟩:=I.list hq
 refine call_all_walk (Dh pl.isList ?_)
 have hp:p<s.heap.objs.size:=by obtain⟨o,n,e,_⟩:=pl;exact Ad e
 have hlen:its.length=bs.length:=by rw[<-rv.length,Ah]
 refine⟨s.heap.objs.size,_,_,_,_,_,fun i=>bs.getD i true,rfl,Walks.list (IS (I.ok.hd hc)) _ p (Ap hp) its.toArray,⟨⟨_,A1 _ rfl,rfl,rfl⟩,pl.isList.push _⟩,?_,fun h' tk k=>?_⟩
 .intro i v s' Q' E' hv hQ
  have hv':its[i]? =some v:=by simpa using hv
  have hi:i<bs.length:=by rw[<-hlen];exact (As.mp hv').1
  obtain⟨u,hu,ru⟩:=rv.get (i:=i) (x:= .bl bs[i]) (by simp[hi])
  rw[hv']at hu;cases hu;cases ru
  refine By ?_
  have e:bs.getD i true=bs[i]:=by simp[hi]
  dsimp only at hQ;rw[e]at hQ;exact hQ
 .refine⟨.bl _,H,I.kept (t':=tk) (fun b o e=>k b o (by simpa using Ap (Ad e)) (Aq _ e)),?_,q⟩
  show Value.bool _=Value.bool _
  congr 1
  rw[Ak,hlen];have:∀(bs:List Bool) (n:Nat),n=bs.length->(List.range n).all (fun i=>bs.getD i true)=bs.all id:=by
   intro bs n hn;rw[Bool.eq_iff_iff,B8,B8]
   constructor
   .intro h x hx
    obtain⟨i,hi,rfl⟩:=List.mem_iff_getElem.mp hx;have:=h i (B6.mpr (by lia))
    simpa[hi] using this
   .intro h i hi
    have hi':i<bs.length:=by have:=B6.mp hi;lia
    have:=h bs[i] (List.getElem_mem hi');simpa[hi'] using this
  exact this bs _ rfl
def MJ (hc:X.calm=true):yM X (.builtin "any") (fun xs H Q=> ∃(p:Addr) (bs:List Bool),xs=[.ref p]/\SqL X.K H p (bs.map V.bl)/\Q (.bl (bs.any id)) H):=by
 intro pins s σ H xs us Q I r h;obtain⟨p,bs,rfl,hq,q⟩:=h;obtain⟨u,rfl,rx⟩:=qP r;cases rx;obtain⟨its,rv,pl,hz⟩:=I.list hq
 refine call_any_walk (Dh pl.isList ?_)
 have hp:p<s.heap.objs.size:=by obtain⟨o,n,e,_⟩:=pl;exact Ad e
 have hlen:its.length=bs.length:=by rw[<-rv.length,Ah]
 refine⟨s.heap.objs.size,_,_,_,_,_,fun i=>bs.getD i false,rfl,Walks.list (IS (I.ok.hd hc)) _ p (Ap hp) its.toArray,⟨⟨_,A1 _ rfl,rfl,rfl⟩,pl.isList.push _⟩,?_,fun h' tk k=>?_⟩
 .intro i v s' Q' E' hv hQ
  have hv':its[i]? =some v:=by simpa using hv
  have hi:i<bs.length:=by rw[<-hlen];exact (As.mp hv').1
  obtain⟨u,hu,ru⟩:=rv.get (i:=i) (x:= .bl bs[i]) (by simp[hi])
  rw[hv']at hu;cases hu;cases ru
  refine By ?_
  have e:bs.getD i false=bs[i]:=by simp[hi]
  dsimp only at hQ;rw[e]at hQ;exact hQ
 .refine⟨.bl _,H,I.kept (t':=tk) (fun b o e=>k b o (by simpa using Ap (Ad e)) (Aq _ e)),?_,q⟩
  show Value.bool _=Value.bool _
  congr 1
  rw[Ak,hlen];have:∀(bs:List Bool) (n:Nat),n=bs.length->(List.range n).any (fun i=>bs.getD i false)=bs.any id:=by
   intro bs n hn;rw[Bool.eq_iff_iff,List.any_eq_true,List.any_eq_true]
   constructor
   .rintro⟨i,hi,h⟩
    have hi':i<bs.length:=by have:=B6.mp hi;lia
    exact⟨bs[i],List.getElem_mem hi',by simpa[hi'] using h⟩
   .rintro⟨x,hx,h⟩
    obtain⟨i,hi,rfl⟩:=List.mem_iff_getElem.mp hx;exact⟨i,B6.mpr (by lia),by simpa[hi] using h⟩
  exact this bs _ rfl
end
end L2
namespace L2
open PySem PySem.W PySem.Spec PyProof.Rows
def IT (sc:Scope) (N loc free:List Str) (fr:List Nat) (scope:Scope):Bool:=
 decide (scope.kind=.function) && scope.names.all (fun y=>decide (y.2≠ .cell)) && scope.names.all (fun y=>decide (y.2≠ .local) || decide (scope.names.lookup y.1=some .local)) &&
 scope.names.all (fun y=>decide (y.2≠ .free) || (decide (sc.names.lookup y.1=some .cell) || decide (sc.names.lookup y.1=some .free))) && decide (fr.length=free.length) &&
 (List.range fr.length).all fun i=>match fr[i]?,free[i]? with
  |some j,some x=>decide (N[j]? =some x) && decide (scope.names.lookup x=some .free)
  |_,_=>true
def BH {X:Cx} {sc:Scope} {N loc free:List Str} {fr:List Nat} {scope:Scope} (e1:X.env.scope=sc) (e2:X.N=N) (h:IT sc N loc free fr scope=true):CompScope X loc free fr scope:=by
 unfold IT at h;simp only[Be,B8,Bool.or_eq_true,B9]at h;obtain⟨⟨⟨⟨⟨h1,h2⟩,h3⟩,h4⟩,h5⟩,h6⟩:=h
 refine⟨h1,fun y hy=>h2 y hy,fun y hy hl=>(h3 y hy).elim (fun z=>absurd hl z) id,fun y hy hf=>?_,fun i j x a b=>?_,h5⟩
 .show X.env.scope.names.lookup y.1=some .cell\/X.env.scope.names.lookup y.1=some .free
  rw[e1];exact (h4 y hy).elim (fun z=>absurd hf z) id
 .have hi:i<fr.length:=(As.mp a).1
  have:=h6 i (B6.mpr hi);rw[a,b]at this;simp only[Be,B9]at this;rw[e2];exact this
def pgc {X:Cx} {x:Str} {pos:Pos} (i:Nat) (N:List Str) (nd:N.Nodup) (eN:X.N=N) (hi:N[i]? =some x) (hx:jq X.env.scope x) (hl:X.env.scope.names.lookup x=some .local):PG X (.Name x pos) (DN i):=
 Im (eN ▸ nd) (by rw[eN];exact hi) hx (.inr hl)
structure Dfn (K:FG) (mg:Str->Option Value) (x:Str) (st:Stmt) (ps:List Str) (f:Addr) (fd:FuncData):Prop where
 F:Fun K x x st f fd
 b:Binds K fd ps []
 g:mg x=some (.ref f)
end L2
namespace L2
open PySem PySem.Spec PyProof.Rows
section
variable {X:Cx} {pos:Pos}
def gLst (K:FG) (n:Nat) (t:jp):TG:=fun v σ H Q=> ∃a xs,v=.ref a/\SqL K H a xs/\xs.length=n/\t xs σ H Q
def IU {es:List Expr} {k:Nat} {t:jp} {n:Nat} (hc:X.calm=true) (h:jl X es t)
  (hn:(assignEach es X.env).length=n:=by rfl) (hst:(assignEach es X.env).findIdx? (·.1)=none:=by rfl):PG X (.Tuple es k pos) (gLst X.K n t):=by
 intro pins s σ H v u Q I r hw;obtain⟨a,xs,e1,hq,hl,hw⟩:=hw;subst e1;cases r;obtain⟨its,rv,pl,hz⟩:=I.list hq;rw[assign_Tuple]
 refine Ac (Cd ?_)
 unfold unpack;rw[hst,hn,show n=its.toArray.size by simp[<-hl,rv.length]]
 refine Ac (Bm (PySem.W.kun_itemsOf (I.ok.hd hc) pl.isList fun h' hx=>?_))
 have I1:Inv X pins σ H {s with heap:=h'}:=I.kept (t':=s.toks) fun b o e=>hx b o (Ap (Ad e)) e
 exact h pins _ σ H xs _ Q I1 (by simpa using rv) hw
end
def Trc (h:Heap) (a T:Addr) (cls a0:Value):Prop:=
 ∃oe vs oT ts,h.get? a=some oe/\(oe.cls=cls/\vs[0]? =some a0)/\oe.data=.fields vs/\vs[1]? =some (.ref T)/\T≠a/\h.get? T=some oT/\oT.data=.fields ts/\ts[3]? =some .none
structure Left (l:List Env) (hid:List Addr) (a T':Addr) (cls a0:Value) (h h':Heap):Prop where
 keep:∀b o,h.get? b=some o->b∉hid->h'.get? b=some o
 slot:∀b o,h.get? b=some o->b∈zS l->∃sl,h'.get? b=some {o with slots:=sl}
 trc:Trc h' a T' cls a0
 new:∀b o,h.get? b=some o->b∉hid->b≠T'
 nfr:T'∉zS l
section
variable {M:Model} {A:Around} {E:VP} {s:Shared} {base:Heap} {env:Env} {outer:List Env} {L a T:Addr} {cls a0:Value} {Q:Unit->Shared->Prop}
def EH {l:List Env}:∀env∈l,∀b,env.frame=some b->b∈zS l:=fun env he b hb=>Ce.mpr ⟨env,he,hb⟩
def IV {l:List Env} {hid:List Addr} {h h':Heap} (hf:∀b∈zS l,b∈hid) (hl:h.FunFrames base l) (x:Heap.LeftW (PySem.W.hideAll h hid) l a cls a0 h h'):∃T',Left l hid a T' cls a0 h h':=by
 obtain⟨x1,x2,x3,x4⟩:=x;obtain⟨oe,vs,T',oT,ts,t1,t2,t3,t4,t5,t6,t7,t8,t9⟩:=x3;have kp:∀b o,h.get? b=some o->b∉hid->(PySem.W.hideAll h hid).get? b=some o:=fun b o e n=>Dd hid e n
 refine⟨T',fun b o e n=>x1 b o (kp b o e n),fun b o e hb=>?_,⟨oe,vs,oT,ts,t1,t2,t3,t4,t6,t7,t8,t9⟩,fun b o e n z=>?_,fun hb=>?_⟩
 .refine x4 b o e fun vs hv=>?_
  obtain⟨_,o',ho',hn⟩:=hl.mem hb;rw[e]at ho';cases ho';exact hn vs hv
 .have:=kp b o e n
  rw[z,t5]at this;cases this
 .obtain⟨_,o',ho',hn⟩:=x2.mem hb
  rw[t7]at ho';cases ho';exact hn ts t8
def ML (hfr:A.frames=some (env::outer)) (hl:s.heap.FunFrames base (env::outer)) (hf:env.frame=some L) (tr:Trc s.heap a T cls a0)
  (hQ:∀h' T',Left (env::outer) (a::T::zS (env::outer)) a T' cls a0 s.heap h'->Q () {s with heap:=h'}):wpAny M A (leaving env (.ref a)) Q E s:=by
 obtain⟨oe,vs,oT,ts,t1,t2,t3,t4,t6,t7,t8,t9⟩:=tr;have hid:∀b∈zS (env::outer),b∈a::T::zS (env::outer):=fun b hb=>.tail _ (.tail _ hb)
 refine wpAny_leaving_nextW (base:=PySem.W.hideAll s.heap (a::T::zS (env::outer))) (cls:=cls) (a0:=a0) hfr (Dk hl fun e he b hb=>hid b (EH e he b hb)) hf
  ⟨oe,vs,T,oT,ts,t1,t2,t3,t4,Bx _ (.tail _ (.head _)),t6,t7,t8,t9⟩ (fun b o q=>Cw _ q) (Bx _ (.head _)) fun h' x=>?_
 obtain⟨T',y⟩:=IV hid hl x;exact hQ h' T' y
def MM {h:Heap} {vs:List Value} (hfr:A.frames=some (env::outer)) (hl:s.heap.FunFrames base (env::outer)) (hf:env.frame=some L) (mk:Heap.MadeExcOf h s.heap a cls vs)
  (hQ:∀h' T' a0,Left (env::outer) (a::zS (env::outer)) a T' cls a0 s.heap h'->Q () {s with heap:=h'}):wpAny M A (leaving env (.ref a)) Q E s:=by
 obtain⟨t,ht,_,_⟩:=mk.there;have hid:∀b∈zS (env::outer),b∈a::zS (env::outer):=fun b hb=>.tail _ hb
 refine wpAny_leaving_firstW (base:=PySem.W.hideAll s.heap (a::zS (env::outer))) (a0:= .ref t) hfr (Dk hl fun e he b hb=>hid b (EH e he b hb)) hf
  ht (fun b o q=>Cw _ q) (Bx _ (.head _)) rfl rfl rfl fun h' x=>?_
 obtain⟨T',y⟩:=IV hid hl x;exact hQ h' T' _ y
end
def HOk.there {P:Program} {w:World} {H:Hp} {h:Heap} {a:Addr} {o:HO} (x:HOk P w H h) (q:H a=some o):∃ob,h.get? a=some ob:=by
 have this:=x a o q;cases e:h.get? a with
 |some ob=>exact⟨ob,rfl⟩
 |none=>
  exfalso
  cases o with
  |lst xs=>obtain⟨_,_,_,_,z⟩:=this;rw[e]at z;cases z
  |tup xs=>obtain⟨_,_,_,o1,z,_⟩:=this;rw[e]at z;cases z
  |dK kvs=>obtain⟨_,_,_,_,o,_,_,z,_⟩:=this;rw[e]at z;cases z
  |dT kvs=>obtain⟨_,_,_,_,o,_,_,z,_⟩:=this;rw[e]at z;cases z
  |set S n=>obtain⟨o,_,_,_,z,_⟩:=this;rw[e]at z;cases z
  |ins C dx fs=>obtain⟨_,_,_,z,_⟩:=this;rw[e]at z;cases z
  |own y=>obtain⟨_,z⟩:=this;rw[e]at z;cases z
  |xd fs=>obtain⟨_,⟨_,_,_,z,_⟩,_⟩:=this;rw[e]at z;cases z
  |rng lo hi=>obtain⟨_,_,_,z⟩:=this;rw[e]at z;cases z
  |frz ob u=>obtain⟨z,_⟩:=this;rw[e]at z;cases z
  |tbl ps=>have z:h.get? a=some _:=this;rw[e]at z;cases z
  |met f y=>have z:h.get? a=some _:=this;rw[e]at z;cases z
  |ext φ=>obtain⟨_,⟨_,z⟩,_⟩:=this;rw[e]at z;cases z
def HOk.untracked {P:Program} {w:World} {H:Hp} {h:Heap} {a:Addr} (x:HOk P w H h) (e:h.get? a=none):H a=none:=by
 cases q:H a with
 |none=>rfl
 |some o=>
  obtain⟨ob,z⟩:=x.there q;rw[e]at z;cases z
def XT (P:Program) (w:World):qV:=fun outer H s E e s'=> ∃(a T:Addr) (cls a0:Value) (H':Hp),e=.ref a/\s'.os=s.os/\AllBare s'.gens/\Un (zS outer) [] H H' s.heap s'.heap/\HOk P w H' s'.heap/\
 s.heap.get? a=none/\s.heap.get? T=none/\H' a=none/\H' T=none/\Trc s'.heap a T cls a0/\E cls none H'
section
variable {P:Program} {w:World} {K:FG} {mg:Str->Option Value} {base:Heap} {N:List Str} {qual:Str} {scope:Scope} {f:Addr} {cd:Value} {A:Around} {outer:List Env} {s0:Shared} {H0:Hp} {E:XK}
def Inv.left {X:Cx} {pins:AL} {σ:St} {H:Hp} {s:Shared} {hid:List Addr} {a T':Addr} {cls a0:Value} {h':Heap} (hst:X.stack=X.env::X.outer) (hex:X.ex=[]) (I:Inv X pins σ H s) (y:Left X.stack hid a T' cls a0 s.heap h')
  (hh:∀b∈hid,(b∈zS X.stack\/X.s₀.heap.get? b=none)/\H b=none):
  Un X.fs [] X.H₀ H X.s₀.heap h'/\HOk X.prog X.w H h'/\X.s₀.heap.get? T'=none/\H T'=none:=by
 have hfo:∀b o,X.s₀.heap.get? b=some o->b∉X.fs->b∉zS X.stack:=fun b o e n hb=>by
  rcases Ae.mp (I.stkSub b hb) with z|z
  .have h1:=Ad e
   have h2:=I.ok.above;rw[z]at h1;exact absurd (Ar h1 h2) (Bi _)
  .exact n z
 have nh:∀b o,X.s₀.heap.get? b=some o->b∉X.fs->b∉hid:=fun b o e n hb=>by
  rcases (hh b hb).1 with z|z
  .exact hfo b o e n z
  .rw[e]at z;cases z
 have fsub:∀b∈X.fs,b∈zS X.stack:=fun b hb=>by
  rw[hst];obtain⟨v,hv,e⟩:=Ce.mp hb;exact Ce.mpr ⟨v,.tail _ hv,e⟩
 have U:=I.base;rw[hex]at U;have no:∀b:Addr,b∉([]:List Addr):=fun b z=>nomatch z
 have anyway:∀b o,s.heap.get? b=some o->(b∉hid\/b∈zS X.stack)->∃o',h'.get? b=some o':=fun b o e d=>by
  rcases d with d|d
  .exact⟨o,y.keep b o e d⟩
  .obtain⟨sl,q⟩:=y.slot b o e d
   exact⟨_,q⟩
 refine⟨⟨fun b o e n hb _=>y.keep b o (U.keep b o e n hb (no b)) (nh b o e hb),fun b o e n hb _=>?_,U.free,fun b o e _=>?_,U.tups,U.frzs,U.tbls⟩,fun b o e=>?_,?_,?_⟩
 .obtain⟨sl,q⟩:=U.slot b o e n hb (no b)
  obtain⟨sl',q'⟩:=y.slot b _ q (fsub b hb);exact⟨sl',q'⟩
 .obtain⟨o',q⟩:=U.there b o e (no b)
  refine anyway b o' q ?_
  by_cases z:b∈X.fs
  .exact .inr (fsub b z)
  .exact .inl (nh b o e z)
 .refine (I.hok b o e).stay (fun c u hc ec=>y.keep c u ec fun hm=>?_) (fun _ z=>z) fun _ _ z=>z
  have:=(hh c hm).2
  rcases hc with z|z
  .rw[z,e]at this;cases this
  .rw[z]at this;cases this
 .cases q:X.s₀.heap.get? T' with
  |none=>rfl
  |some o=>
   exfalso
   obtain⟨o',q'⟩:=U.there T' o q (no T')
   by_cases z:T'∈X.fs
   .exact y.nfr (fsub _ z)
   .exact y.new T' o' q' (nh T' o q z) rfl
 .cases q:H T' with
  |none=>rfl
  |some o=>
   exfalso
   obtain⟨ob,hob⟩:=I.hok.there q
   refine y.new T' ob hob (fun hm=>?_) rfl
   have:=(hh T' hm).2;rw[q]at this;cases this
def MN:DQ (XT P w) (yI (XT P w) P w K mg base N qual scope f cd A outer s0 H0 E) E:=by
 intro pins σ H s e s' I hx;obtain⟨a,T,cls,a0,H',rfl,os,bare,un,hok,na,nT,ha,hT,tr,q⟩:=hx;have I':Inv (yI (XT P w) P w K mg base N qual scope f cd A outer s0 H0 E) pins σ H' s':=I.call' os un hok bare fun b z=>nomatch z
 have old:∀b,s.heap.get? b=none->s0.heap.get? b=none:=fun b e=>by
  cases z:s0.heap.get? b with
  |none=>rfl
  |some o=>
   obtain⟨o',q'⟩:=I.base.there b o z fun y=>nomatch y
   rw[e]at q';cases q'
 refine ML (base:=base) (L:=s0.heap.objs.size) I'.ok.frames I'.stack rfl tr fun h' T' y=>?_
 obtain⟨u,hk,n1,n2⟩:=I'.left rfl rfl y fun b hb=>by
  rcases Ae.mp hb with z|hb
  .rw[z];exact⟨.inr (old a na),ha⟩
  .rcases Ae.mp hb with z|hb
   .rw[z];exact⟨.inr (old T nT),hT⟩
   .exact⟨.inl hb,I'.stkFree b hb⟩
 exact⟨a,T',cls,a0,H',rfl,I'.os,I'.bare,u,hk,old a na,n1,ha,n2,y.trc,q⟩
def GM (X:Cx) (E:XK):Prop:=∀(pins:AL) (σ:St) (H:Hp) (s:Shared) (a C:Addr) (vs:List Value) (h':Heap),Inv X pins σ H s->Heap.MadeExcOf s.heap h' a (.ref C) vs->E (.ref C) none H->X.xe (.ref a) {s with heap:=h'}
def FH:GM (yI (XT P w) P w K mg base N qual scope f cd A outer s0 H0 E) E:=by
 intro pins σ H s a C vs h' I mk q;have I':Inv (yI (XT P w) P w K mg base N qual scope f cd A outer s0 H0 E) pins σ H {s with heap:=h'}:=I.kept (t':=s.toks) mk.keeps
 have na:H a=none:=I.hok.untracked mk.new;have old:s0.heap.get? a=none:=by
  cases z:s0.heap.get? a with
  |none=>rfl
  |some o=>
   obtain⟨o',q'⟩:=I.base.there a o z fun y=>nomatch y
   rw[mk.new]at q';cases q'
 refine MM (base:=base) (L:=s0.heap.objs.size) (h:=s.heap) (vs:=vs) I'.ok.frames I'.stack rfl mk fun h'' T' a0 y=>?_
 obtain⟨u,hk,n1,n2⟩:=I'.left rfl rfl y fun b hb=>by
  rcases Ae.mp hb with z|hb
  .rw[z];exact⟨.inr old,na⟩
  .exact⟨.inl hb,I'.stkFree b hb⟩
 exact⟨a,T',.ref C,a0,H,rfl,I'.os,I'.bare,u,hk,old,n1,na,n2,y.trc,q⟩
end
abbrev bmV:List Value:=[.type "ValueError",.type "Exception",.type "BaseException",.type "object"]
structure XCl (K:FG) (mg:Str->Option Value) (x:Str) (C:Addr):Prop where
 ex:PySem.W.excIn K C bmV "ValueError.__new__" =true
 gl:mg x=some (.ref C)
def XCl.own {K:FG} {mg:Str->Option Value} {x:Str} {C:Addr} {h:Heap} (c:XCl K mg x C) (X:K.In h):OwnCls x C bmV "ValueError.__new__" mg h:=by
 have q:=c.ex;unfold PySem.W.excIn at q
 split at q
 case h_2=>cases q
 case h_1 dd cd sl ho=>
  split at q
  case h_2=>cases q
  case h_1 C' bm y0 y1 y2 y3 n y5 hm hs=>
   simp only[Be,Bt,Bool.not_eq_true']at q;obtain⟨⟨⟨⟨⟨e1,e2⟩,hdel⟩,ht⟩,hok⟩,hni⟩:=q;subst e1;subst e2;cases cd with
   |mk nm bs mro ns qn hd sn sub ab col del=>
   simp only at hm hdel hok hni;cases hm;cases hdel;have e:sl= #[y0,y1,y2,y3,some (.builtin "ValueError.__new__"),y5]:=Array.ext' hs;cases e;exact⟨c.gl,bm,ns,nm,qn,bs,hd,sn,sub,ab,col,dd,y0,y1,y2,y3,y5,h.nsMap ns,X _ _ ho,.of_isNs (PySem.W.isNs_of_in X hok),PySem.W.nsMap_none_of_in X hok hni,PySem.W.tail_of_in X ht⟩
section
variable {X:Cx} {x:Str} {C:Addr} {np cpos pos:Pos} {e:Expr} {es:List Expr} {ta:TA} {E:XK}
def MO (C:Addr) (E:XK) (ta:TA):TS:=fun _ σ H=>ta σ H fun vs H1=>vs.length<=1000/\E (.ref C) none H1
def MP (c:XCl X.K X.mg x C) (hc:X.calm=true) (hg:Gl X x) (hr:GM X E) (ha:PA X (e::es) ta) (hs:SE X e es:=by rfl) (hp:(backTo cpos (starEach es X.env)).any (·.1)=false:=by rfl)
  (hd:(x==("__debug__" :Str))=false:=by decide):PS X (.Raise (some (.Call (.Name x np) (e::es) [] cpos)) none pos) (MO C E ta):=by
 intro pins s σ H D I h;obtain⟨tl,N,nm,q,bs,hdct,sn,sub,ab,col,dd,k0,k1,k2,k3,k5,mN,hC,hN,hni,T⟩:=(c.own I.ok.mod.kin).obj
 refine wpAny_Raise_call_subT PySem.F.excBase_ValueError (bm:=tl) (mN:=mN) (C:=C) (N:=N) (k5:=k5) (k3:=k3) (k2:=k2) (k1:=k1) (k0:=k0) (dd:=dd) (col:=col) (ab:=ab) (sub:=sub) (sn:=sn) (hdct:=hdct) (bs:=bs) (q:=q) (nm:=nm) (T.hasType (by decide)) (I.ok.hd hc) (by rw[hs];show (false || _)=false;rw[Bool.false_or];exact hp) hni (DM I hg c.gl ⟨rfl,?_⟩ hd)
 rw[hs]
 refine Calls.evalArgs_plain (zp (by have:=ha cpos pins s σ H _ I h;rw[hs]at this;exact this) fun us s1 z=>?_)
 obtain⟨vs,H1,I1,rv,hl,q1⟩:=z;exact⟨rfl,by show us.length<=sizeLine;rw[<-rv.length];exact Nat.le_of_lt (MA hl),I1.bk _ _ hC,hN.keeps I1.bk,T.keeps I1.bk,fun h' a mk=>hr pins σ H1 s1 a C us h' I1 mk q1⟩
end
def Fun.okX {P:Program} {w:World} {K:FG} {mg:Str->Option Value} {base:Heap} {x qual:Str} {st:Stmt} {f:Addr} {fd:FuncData} {N ps:List Str} {k:Nat} {sp:Sp} (F:Fun K x qual st f fd) (S:FnScope N ps (zR st)) (len:∀vs H Q E,sp vs H Q E->vs.length=ps.length)
  (hbody:∀(cdv:Value) (A:Around) (outer:List Env) (s:Shared) (H:Hp) (vs:List V) (Q:VK) (E:XK),Room k (A.deeper (envOfC qual (zR st) s.heap.objs.size f cdv))->sp vs H Q E->
   ∃t,yB (yI (XT P w) P w K mg base N qual (zR st) f cdv A outer s H E) (CJ st) t/\t {nx:=fun _ H'=>Q .non H',rt:=Q} (start N vs) H):FnOk P w K mg base (XT P w) (k+1) f fd ps sp:=by
 obtain⟨oc,od,kV,doc,pm,an,cdv,ct,osl,rfl,lk,hcd⟩:=F.ex;exact Mg lk hcd S len fun A outer s H vs Q E hr hsp=>hbody cdv A outer s H vs Q E hr hsp
def MQ {fs hid:List Addr} {H H':Hp} {h h1 h2:Heap} (u:Un fs [] H H' h h1) (keep:∀b o,h1.get? b=some o->b∉hid->h2.get? b=some o)
  (slot:∀b o,h1.get? b=some o->b∈fs->∃sl,h2.get? b=some {o with slots:=sl}) (hh:∀b∈hid,b∈fs\/h.get? b=none):Un fs [] H H' h h2:=by
 have no:∀b:Addr,b∉([]:List Addr):=fun b z=>nomatch z
 have nh:∀b o,h.get? b=some o->b∉fs->b∉hid:=fun b o e n hb=>by
  rcases hh b hb with z|z
  .exact n z
  .rw[e]at z;cases z
 refine⟨fun b o e n hb _=>keep b o (u.keep b o e n hb (no b)) (nh b o e hb),fun b o e n hb _=>?_,u.free,fun b o e _=>?_,u.tups,u.frzs,u.tbls⟩
 .obtain⟨sl,q⟩:=u.slot b o e n hb (no b)
  obtain⟨sl',q'⟩:=slot b _ q hb;exact⟨sl',q'⟩
 .obtain⟨o',q⟩:=u.there b o e (no b)
  by_cases z:b∈fs
  .obtain⟨sl,q'⟩:=slot b o' q z
   exact⟨_,q'⟩
  .exact⟨o',keep b o' q (nh b o e z)⟩
def MR {P:Program} {w:World} {H:Hp} {h1 h2:Heap} {hid:List Addr} (k:HOk P w H h1) (keep:∀b o,h1.get? b=some o->b∉hid->h2.get? b=some o) (hh:∀b∈hid,H b=none):HOk P w H h2:=fun b o e=>by
 refine (k b o e).stay (fun c u hc ec=>keep c u ec fun hm=>?_) (fun _ z=>z) fun _ _ z=>z
 have:=hh c hm
 rcases hc with z|z
 .rw[z,e]at this;cases this
 .rw[z]at this;cases this
section
variable {X:Cx} {pins:AL} {σ:St} {H:Hp} {s:Shared}
abbrev Cx.pinned (X:Cx) (pn:AL):Cx:={X with pn:=pn}
abbrev Cx.suite (X:Cx) (e:Value):Cx:={X with A:=X.A.mark (some e),calm:=false}
def Inv.inPn (I:Inv X pins σ H s):Inv (X.pinned (X.pn++pins)) [] σ H s:=
 ⟨⟨I.ok.mod,I.ok.kind,I.ok.glob,I.ok.blt,I.ok.above,I.ok.inj,I.ok.has,I.ok.cab,I.ok.hd,I.ok.frames,I.ok.stk,I.ok.exf,I.ok.bs,I.ok.bsz,I.ok.noex,I.ok.exfs,I.ok.funs,I.ok.frf⟩,I.os,I.bare,I.base,I.loc,I.cell,I.free,I.freeC,fun p hp=>I.pin p (by rw[B1]at hp;exact hp),I.hok,I.len⟩
def Inv.unpin {ps:AL} (I:Inv (X.pinned (X.pn++pins)) ps σ H s):Inv X pins σ H s:=
 ⟨⟨I.ok.mod,I.ok.kind,I.ok.glob,I.ok.blt,I.ok.above,I.ok.inj,I.ok.has,I.ok.cab,I.ok.hd,I.ok.frames,I.ok.stk,I.ok.exf,I.ok.bs,I.ok.bsz,I.ok.noex,I.ok.exfs,I.ok.funs,I.ok.frf⟩,I.os,I.bare,I.base,I.loc,I.cell,I.free,I.freeC,fun p hp=>I.pin p (Cy _ hp),I.hok,I.len⟩
theorem Inv.suite (I:Inv X pins σ H s) (e:Value):Inv (X.suite e) pins σ H s:=
 ⟨⟨I.ok.mod,I.ok.kind,I.ok.glob,I.ok.blt,I.ok.above,I.ok.inj,I.ok.has,I.ok.cab,(fun z=>Bool.noConfusion z),I.ok.frames,I.ok.stk,I.ok.exf,I.ok.bs,I.ok.bsz,I.ok.noex,I.ok.exfs,I.ok.funs,I.ok.frf⟩,I.os,I.bare,I.base,I.loc,I.cell,I.free,I.freeC,I.pin,I.hok,I.len⟩
def Inv.unsuite {e:Value} (hc:X.calm=true->X.A.handled=none) (I:Inv (X.suite e) pins σ H s):Inv X pins σ H s:=
 ⟨⟨I.ok.mod,I.ok.kind,I.ok.glob,I.ok.blt,I.ok.above,I.ok.inj,I.ok.has,I.ok.cab,hc,I.ok.frames,I.ok.stk,I.ok.exf,I.ok.bs,I.ok.bsz,I.ok.noex,I.ok.exfs,I.ok.funs,I.ok.frf⟩,I.os,I.bare,I.base,I.loc,I.cell,I.free,I.freeC,I.pin,I.hok,I.len⟩
def SP.conv {Y:Cx} {ps:AL} {D:Ends} {f:Flow} {s':Shared} (k:∀σ' H',Inv Y ps σ' H' s'->Inv X pins σ' H' s') (h:SP Y ps D f s'):SP X pins D f s':=by
 cases f with
 |next=>obtain⟨σ',H',I,q⟩:=h;exact⟨σ',H',k _ _ I,q⟩
 |brk=>obtain⟨σ',H',I,q⟩:=h;exact⟨σ',H',k _ _ I,q⟩
 |cont=>obtain⟨σ',H',I,q⟩:=h;exact⟨σ',H',k _ _ I,q⟩
 |ret u=>obtain⟨v,σ',H',I,r,q⟩:=h;exact⟨v,σ',H',k _ _ I,r,q⟩
end
def AN (X:Cx) (pn:AL) (E:XK):VP:=fun e s1=> ∃pins σ H s,Inv (X.pinned pn) pins σ H s/\XT X.prog X.w X.stack H s E e s1
def EI {X:Cx} {pn:AL} {E:XK}:DQ (XT X.prog X.w) ((X.pinned pn).wish (AN X pn E)) E:=fun pins σ H s e s' I h=>⟨pins,σ,H,s,I.unwish,h⟩
def IW (a:Addr) (cls:Value):Heap->Prop:=fun h=> ∃o vs,h.get? a=some o/\o.cls=cls/\o.data=.fields vs
abbrev excO (a:Addr) (cls:Value):HO:= .ext (IW a cls)
section
variable {X:Cx} {pins:AL} {σ:St} {H:Hp} {s:Shared}
def Inv.track {a:Addr} {o:HO} (I:Inv X pins σ H s) (hn:H a=none) (h0:X.s₀.heap.get? a=none) (hl:a≠X.env.locals) (hc:∀x c,X.env.cells.lookup x=some c->c≠a) (hp:∀p∈X.pn++pins,p.1≠a) (new:ObjOk X.prog X.w (zl H a o) s.heap a o):
  Inv X pins σ (zl H a o) s:=by
 refine⟨I.ok,I.os,I.bare,⟨I.base.keep,I.base.slot,fun b u e n hx=>?_,I.base.there,fun b xs e=>?_,fun b u v e=>?_,fun b ps e=>?_⟩,I.loc,I.cell,?_,fun y c e=>?_,fun p q=>?_,fun b u e=>?_,I.len⟩
 .rw[zI (fun z=>by rw[z,h0]at e;cases e)];exact I.base.free b u e n hx
 .rw[zI (yR (I.base.tups b xs e) hn)];exact I.base.tups b xs e
 .rw[zI (yR (I.base.frzs b u v e) hn)];exact I.base.frzs b u v e
 .obtain⟨more,q⟩:=I.base.tbls b ps e
  exact⟨more,by rw[zI (yR q hn)];exact q⟩
 .rw[zI hl.symm];exact I.free
 .rw[zI (hc y c e)];exact I.freeC y c e
 .obtain⟨e,n,r⟩:=I.pin p q
  exact⟨e,by rw[zI (hp p q)];exact n,r⟩
 .by_cases hb:b=a
  .subst hb;rw[yQ]at e;cases e;exact new
  .rw[zI hb]at e
   exact (I.hok b u e).stay (fun c v _ q=>q) (fun c q=>by rw[zI (yR q hn)];exact q) fun c xs q=>by rw[zI (yR q hn)];exact q
def FI {M:Model} {A:Around} {E:VP} {i:Nat} {n:Str} {pos:Pos} {Q:Unit->Shared->Prop} (I:Inv X pins σ H s) (hN:X.N.Nodup) (hi:X.N[i]? =some n) (hx:X.env.kindOf n=some .local)
  (h:∀s',Inv X pins (σ.set i none) H s'->Q () s'):wpAny M A (do bindName X.env n .none;unbindBehindTheSuite X.env n pos) Q E s:=by
 obtain⟨m,hn,hl⟩:=id I.loc;have hcls:(X.env.scope.kind== .class || (X.env.scope.kind== .module && X.env.locals !=X.env.globals))=false:=by rw[I.ok.kind];rfl
 refine wpAny_nameGoes_keeps hx hn hcls fun h' v hn' hs=>h _ ?_
 have lt:∀b o,X.s₀.heap.get? b=some o->b≠X.env.locals:=fun b o e=>Ap (Ar (Ad e) I.ok.above)
 refine⟨I.ok,I.os,I.bare,⟨fun b o e n hb hx=>(hs.2 b (lt b o e)).trans (I.base.keep b o e n hb hx),fun b o e n hb hx=>?_,I.base.free,fun b o e hx=>?_,I.base.tups,I.base.frzs,I.base.tbls⟩,⟨_,hn',fun j y w e1 e2 e3=>?_⟩,fun y c e=>?_,I.free,I.freeC,fun p hp=>?_,fun b u e=>?_,by rw[A4];exact I.len⟩
 .obtain⟨sl,e1⟩:=I.base.slot b o e n hb hx
  exact⟨sl,(hs.2 b (lt b o e)).trans e1⟩
 .obtain⟨o',e1⟩:=I.base.there b o e hx
  exact⟨o',(hs.2 b (lt b o e)).trans e1⟩
 .by_cases hj:j=i
  .subst hj
   by_cases hlt:j<σ.length
   .rw[Df hlt]at e2;cases e2
   .rw[List.getElem?_eq_none (by rw[A4];lia)]at e2;cases e2
  .rw[Cz (Bl hj)]at e2
   obtain⟨u,r,q⟩:=hl j y w e1 e2 e3
   refine⟨u,r,?_⟩
   have ny:y≠n:=fun z=>hj (GD hN e1 (z ▸ hi))
   rcases q with ⟨k1,k2⟩|⟨k1,c,k2,k3⟩
   .exact .inl ⟨k1,by simp[ny,k2]⟩
   .exact .inr ⟨k1,c,k2,k3.sameBut hs (I.cne y c k2)⟩
 .obtain⟨w',z⟩:=I.cell y c e
  exact⟨w',z.sameBut hs (I.cne y c e)⟩
 .obtain⟨e,n,ne,r⟩:=I.pin p hp
  exact⟨(hs.2 p.1 ne).trans e,n,ne,r⟩
 .refine (I.hok b u e).stay (fun c w' hc q=>(hs.2 c ?_).trans q) (fun _ q=>q) fun _ _ q=>q
  intro z
  rcases hc with y|y
  .rw[<-y,z,I.free]at e;cases e
  .rw[z,I.free]at y;cases y
end
def GN (CX:qV) (X:Cx) (σ₀:St) (E:XK):Prop:=∀(pins:AL) (H:Hp) (s:Shared) (e:Value) (s':Shared),Inv X pins σ₀ H s->CX X.stack H s E e s'->X.xe e s'
section
variable {X:Cx} {CX:qV} {k:Nat} {f C:Addr} {fd:FuncData} {ps:List Str} {sp:Sp} {dvs:List V} {ds:List Value} {E:XK} {x m:Str} {p pos apos:Pos} {e o:Expr} {es:List Expr} {ta:TE} {t:TA} {σ₀:St}
def MS {pins:AL} {H:Hp} {s:Shared} {Q:VK} {us:List Value} {vs:List V} (F:FnOk X.prog X.w X.K X.mg X.base CX k f fd ps sp) (hr:Room k X.A) (hb:Binds X.K fd ps ds) (hd:Vals dvs ds) (hx:GN CX X σ₀ E)
  (I:Inv X pins σ₀ H s) (r:Vals vs us) (h:sp (vs++dvs) H Q E):wpAny (model X.prog X.w) X.A (call (.ref f) us) (EP X pins σ₀ Q) X.xe s:=by
 have r2:Vals (vs++dvs) (us++ds):=r.append hd;have hl:(us++ds).length=ps.length:=by rw[<-r2.length];exact F.len _ _ _ _ h
 refine wpAny_call (C2 (F.run X.A X.stack s H ⟨us,[]⟩ (us++ds) (vs++dvs) Q E hr I.env0 (hb s us I.kIn hl) r2 h) fun r s' hq=>?_)
 match r,hq with
 |.error e,hq=>exact hx pins H s e s' I hq
 |.ok (.ret u),hq=>exact I.after hq
 |.ok .next,hq=>exact False.elim hq
 |.ok .brk,hq=>exact False.elim hq
 |.ok .cont,hq=>exact False.elim hq
def MT (F:FnOk X.prog X.w X.K X.mg X.base CX k f fd ps sp) (hr:Room k X.A) (hg:Gl X x) (hm:X.mg x=some (.ref f)) (hk:PySem.W.keepIn X.K (.ref f)=true) (hb:Binds X.K fd ps ds) (hd:Vals dvs ds) (hx:GN CX X σ₀ E)
  (ha:PA X (e::es) t) (hdb:(x==("__debug__" :Str))=false:=by decide) (he:SE X e es:=by rfl) (hpl:BA X pos es:=by rfl):
  PE X (.Call (.Name x p) (e::es) [] pos) (fun σ H Q=>σ=σ₀/\EF sp dvs E t σ H Q):=by
 intro pins s σ H Q I ⟨hσ,h⟩;subst hσ
 refine Di (DM I hg hm ?_ hdb)
 refine PySem.W.callWith_K (h₀:=X.base) I.ok.mod.kin hk (zp (ha pos pins s σ H _ I h) fun us s1 ⟨vs,H1,I1,r,q⟩=>⟨I1.kIn,?_⟩) he hpl
 exact MS F hr hb hd hx I1 r q
end
def EJ (X:Cx) (pn:AL) (σ₀:St) (E:XK):VP:=fun e s1=> ∃pins H s,Inv (X.pinned pn) pins σ₀ H s/\XT X.prog X.w X.stack H s E e s1
def MU {X:Cx} {pn:AL} {σ₀:St} {E:XK}:GN (XT X.prog X.w) ((X.pinned pn).wish (EJ X pn σ₀ E)) σ₀ E:=fun pins H s e s' I h=>⟨pins,H,s,I.unwish,h⟩
structure Caught (X:Cx) (pins:AL) (σ:St) (H:Hp) (a:Addr) (cls:Value) (s:Shared):Prop where
 inv:Inv X pins σ H s
 fly:∃B a0,Heap.FlyingW B (X.env::X.outer) a cls a0 s.heap/\∀h',Heap.FlyingW B (X.env::X.outer) a cls a0 h'->s.heap.UpToSlots h'->Inv X pins σ H {s with heap:=h'}
 free:H a=none
 old:X.s₀.heap.get? a=none
 loc:a≠X.env.locals
 cel:∀x c,X.env.cells.lookup x=some c->c≠a
 pin:∀p∈X.pn++pins,p.1≠a
def qR (X:Cx) (hs:List ExceptHandler) (th:Value->TS):Prop:=∀(pins:AL) (σ:St) (H:Hp) (s:Shared) (D:Ends) (a:Addr) (cls:Value),Caught X pins σ H a cls s->th cls D σ H->wpAny (model X.prog X.w) X.A (handleBy (.ref a) X.env hs) (SP X pins D) X.xe s
section
variable {X:Cx} {x:Str} {B:Addr} {np hp pos:Pos} {b:List Stmt} {b₀:Stmt} {suite:List Stmt} {hs:List ExceptHandler} {th:TS} {tr:Value->TS}
abbrev xNil:VP:=fun _ _=>False
def IY (K:FG) (B:Addr) (th:Value->TS) (tr:Value->TS):Value->TS:=fun cls D σ H=>(PySem.W.exmOne K cls (.ref B)=some true/\th cls D σ H)\/(PySem.W.exmOne K cls (.ref B)=some false/\tr cls D σ H)
def Caught.looks {pins:AL} {σ:St} {H:Hp} {a:Addr} {cls:Value} {s:Shared} {bb:Bool} (c:Caught X pins σ H a cls s) (hx:PySem.W.exmOne X.K cls (.ref B)=some bb):PySem.W.Looks (model X.prog X.w) s.heap (excMatches (.ref a) (.ref B)) bb:=by
 obtain⟨Bs,a0,fly,_⟩:=c.fly;obtain⟨ob,hob,hobc⟩:=fly.there
 refine PySem.W.exm_one c.inv.kIn ?_ hx
 have:=(PySem.W.Looks.ld (M:=model X.prog X.w) (part:=none) hob);rw[<-hobc];exact this.andThen .now
def MV (hg:Gl X x) (hm:X.mg x=some (.ref B)) (hs0:∀e,yB ((X.suite e).wish xNil) (b₀::suite) th) (hr:qR X hs tr) (hd:(x==("__debug__" :Str))=false:=by decide):
  qR X (.ExceptHandler (some (.Name x np)) none (b₀::suite) hp::hs) (IY X.K B (fun _=>th) tr):=by
 intro pins σ H s D a cls c h
 refine wpAny_handleBy_cons (codeAny_handlers_test (DM (X:=X.suite (.ref a)) (c.inv.suite (.ref a)) hg hm ?_ hd)) (by intro z;cases z)
 rcases h with ⟨hx,h⟩|⟨hx,h⟩
 .refine (c.looks hx).here (codeAny_handlers_suite ?_)
  obtain⟨Bs,a0,fly,back⟩:=c.fly
  refine lands_againW fly fun h6 fly6 sm6=>?_
  have I6:=back h6 fly6 sm6
  refine Aw (hs0 (.ref a) pins _ σ H D ((I6.suite (.ref a)).wish xNil) h) (fun f s7 q7=>?_) fun _ _ z=>z.elim
  exact SP.conv (fun σ' H' K=>Inv.unsuite c.inv.ok.hd K.unwish) q7
 .exact (c.looks hx).here (hr pins σ H s D a cls c h)
def tAs (i:Nat) (th:TS):Value->TS:=fun cls D σ H=> ∀a,H a=none->th {nx:=fun σ' H'=>D.nx (σ'.set i none) H',rt:=D.rt,bk:=fun σ' H'=>D.bk (σ'.set i none) H',ct:=fun σ' H'=>D.ct (σ'.set i none) H'} (σ.set i (some (.ref a))) (zl H a (excO a cls))
def MW {i:Nat} {n:Str} (hN:X.N.Nodup) (hi:X.N[i]? =some n) (hlo:jq X.env.scope n) (hkd:X.env.kindOf n=some .local) (hg:Gl X x) (hm:X.mg x=some (.ref B)) (hs0:∀e,yB ((X.suite e).wish xNil) (b₀::suite) th) (hr:qR X hs tr) (hd:(x==("__debug__" :Str))=false:=by decide)
  (hf:X.fn n=true\/X.env.scope.names.lookup n=some .local:=by first|exact .inl rfl|exact .inr rfl|assumption):
  qR X (.ExceptHandler (some (.Name x np)) (some n) (b₀::suite) hp::hs) (IY X.K B (tAs i th) tr):=by
 intro pins σ H s D a cls c h
 refine wpAny_handleBy_cons (codeAny_handlers_test (DM (X:=X.suite (.ref a)) (c.inv.suite (.ref a)) hg hm ?_ hd)) (by intro z;cases z)
 rcases h with ⟨hx,h⟩|⟨hx,h⟩
 .refine (c.looks hx).here (codeAny_handlers_suite_as ?_)
  obtain⟨Bs,a0,fly,back⟩:=c.fly
  refine lands_againW fly fun h6 fly6 sm6=>?_
  have I6:=back h6 fly6 sm6;obtain⟨_,_,_,oe,vs,T,oT,ts,t1,t2,t3,_⟩:=id fly6;have I7:Inv X pins σ (zl H a (excO a cls)) {s with heap:=h6}:=I6.track c.free c.old c.loc c.cel c.pin ⟨⟨oe,vs,t1,t2.1,t3⟩,⟨oe,t1⟩,fun h1 h2 ⟨o,vs,e,c,d⟩ k=>⟨o,vs,k o e,c,d⟩⟩
  refine E8 (X:=X.suite (.ref a)) (I7.suite (.ref a)) hN hi hlo (v:= .ref a) rfl (fun s8 I8=>?_) hf
  refine Aw (hs0 (.ref a) pins _ _ _ _ (I8.wish xNil) (h a c.free)) (fun f s9 q9=>?_) fun _ _ z=>z.elim
  have I9:SP X pins _ f s9:=SP.conv (fun σ' H' K=>Inv.unsuite c.inv.ok.hd K.unwish) q9
  cases f with
  |next=>obtain⟨σ',H',J,q⟩:=I9;exact FI J hN hi hkd fun s' J'=>⟨_,_,J',q⟩
  |brk=>obtain⟨σ',H',J,q⟩:=I9;exact FI J hN hi hkd fun s' J'=>⟨_,_,J',q⟩
  |cont=>obtain⟨σ',H',J,q⟩:=I9;exact FI J hN hi hkd fun s' J'=>⟨_,_,J',q⟩
  |ret u=>obtain⟨v,σ',H',J,r,q⟩:=I9;exact FI J hN hi hkd fun s' J'=>⟨_,_,_,J',r,q⟩
 .exact (c.looks hx).here (hr pins σ H s D a cls c h)
def MX:qR X [] (fun _ _ _ _=>False):=fun _ _ _ _ _ _ _ _ h=>h.elim
def MY {h₀:ExceptHandler} {tb:XK->TS} (hst:X.stack=X.env::X.outer) (hfm:X.env.frame=some X.env.locals) (hex:X.ex=[])
  (hb:∀pn σ₀ E,yB ((X.pinned pn).wish (EJ X pn σ₀ E)) b (fun D σ H=>σ=σ₀/\tb E D σ H)) (hh:qR X (h₀::hs) tr):
  PS X (.Try b (h₀::hs) [] [] pos) (fun D σ H=>tb (fun cls _ H'=>tr cls D σ H') D σ H):=by
 intro pins s σ H D I h;have J:Inv ((X.pinned (X.pn++pins)).wish (EJ X (X.pn++pins) σ fun cls _ H'=>tr cls D σ H')) [] σ H s:=I.inPn.wish _
 refine wpAny_Try_except (Aw (hb (X.pn++pins) σ _ [] s σ H D J ⟨rfl,h⟩) (fun f s1 q=>?_) fun e s1 q=>?_)
 .have q':SP X pins D f s1:=SP.conv (fun σ' H' K=>Inv.unpin K.unwish) q
  cases f with
  |next=>exact Ag q'
  |brk=>exact q'
  |cont=>exact q'
  |ret u=>exact q'
 .obtain⟨pins2,H2,s2,I2,a,T,cls,a0,H',rfl,os,bare,un,hok,na,nT,ha,hT,tr',q⟩:=q
  have I3:Inv (X.pinned (X.pn++pins)) pins2 σ H' s1:=I2.call' os un hok bare fun b z=>nomatch z
  have hfr:s1.heap.FunFrames X.base X.stack:=I3.stack;obtain⟨oe,vs,oT,ts,t1,t2,t3,t4,t6,t7,t8,t9⟩:=tr';have fly:Heap.FlyingW (PySem.W.hideAll s1.heap (a::T::zS X.stack)) X.stack a cls a0 s1.heap:=
   ⟨fun b o z=>Cw _ z,Bx _ (.head _),Dk hfr fun e he b hb=>.tail _ (.tail _ (EH e he b hb)),oe,vs,T,oT,ts,t1,t2,t3,t4,Bx _ (.tail _ (.head _)),t6,t7,t8,t9⟩
  have hfrm:X.A.frames=some (X.env::X.outer):=by rw[<-hst];exact I.ok.frames
  have back:∀h',Heap.FlyingW (PySem.W.hideAll s1.heap (a::T::zS X.stack)) X.stack a cls a0 h'->s1.heap.UpToSlots h'->Inv X pins σ H' {s1 with heap:=h'}:=fun h' f u=>by
   have keep:∀b o,s1.heap.get? b=some o->b∉a::T::zS X.stack->h'.get? b=some o:=fun b o e n=>f.1 b o (Dd _ e n)
   have slot:∀b o,s1.heap.get? b=some o->b∈zS X.stack->∃sl,h'.get? b=some {o with slots:=sl}:=fun b o e hb=>by
    refine u b o e fun ws hv=>?_
    obtain⟨_,o',ho',hn⟩:=hfr.mem hb;rw[e]at ho';cases ho';exact hn ws hv
   have un':Un (zS X.stack) [] H2 H' s2.heap h':=MQ un keep slot fun b hb=>by
    rcases Ae.mp hb with z|hb
    .rw[z];exact .inr na
    .rcases Ae.mp hb with z|hb
     .rw[z];exact .inr nT
     .exact .inl hb
   have hok':HOk X.prog X.w H' h':=MR hok keep fun b hb=>by
    rcases Ae.mp hb with z|hb
    .rw[z];exact ha
    .rcases Ae.mp hb with z|hb
     .rw[z];exact hT
     .exact I3.stkFree b hb
   have I4:Inv (X.pinned (X.pn++pins)) pins2 σ H' {s1 with heap:=h'}:=I2.call' os un' hok' bare fun b z=>nomatch z
   exact I4.unpin
  rw[hst]at fly
  refine wpAny_looks_onW hfrm hfm fly fun h4 held4 sm4=>?_
  refine wpAny_landsW held4 fun h5 fly5 sm5=>?_
  have sm45:=sm4.trans sm5;have I5:Inv X pins σ H' {s1 with heap:=h5}:=back h5 (by rw[hst];exact fly5) sm45
  have ne2:∀b o,s2.heap.get? b=some o->b≠a:=fun b o e z=>by rw[z,na]at e;cases e
  refine hh pins σ H' _ D a cls ⟨I5,⟨_,_,fly5,fun h' f u=>back h' (by rw[hst];exact f) (sm45.trans u)⟩,ha,?_,?_,?_,?_⟩ q
  .cases z:X.s₀.heap.get? a with
   |none=>rfl
   |some o=>
    have U:=I2.base;obtain⟨o',q'⟩:=U.there a o z fun y=>by rw[show (X.pinned (X.pn++pins)).ex=X.ex from rfl,hex]at y;cases y
    rw[na]at q';cases q'
  .intro z
   obtain⟨m,⟨o,es,ep,e,_⟩,_⟩:=I2.loc;exact ne2 _ o e z.symm
  .intro y c e z
   obtain⟨w',hw⟩:=I2.cell y c e;obtain⟨o,e1,_⟩:=hw;exact ne2 _ o e1 z
  .intro p hp z
   have e:=(I2.pin p (Cy _ hp)).1;exact ne2 _ _ e z
end
structure ExK (K:FG) (C:Addr):Prop where
 it:(PySem.W.clsIn K C).isSome=true
 ga:PySem.W.findIn K (.ref C) "__getattribute__" =some (some (.builtin "BaseException.__getattribute__"))
 gn:PySem.W.findIn K (.ref C) "__getattr__" =some none
 gc:PySem.W.findIn K (.ref C) "__class__" =some (some (.builtin "object.__class__"))
 sb:PySem.W.subIn K (.ref C) (.type "BaseException")=some true
 so:PySem.W.subIn K (.ref C) (.type "object")=some true
section
variable {K:FG} {prog:Program} {w:World} {A:Around} {E:VP} {h:Heap} {g:Array GenState} {d:Drawn} {t:Nat} {os:OsState} {a C:Addr} {o:Obj}
def MZ {R:Result->Shared->Prop} (z:ExK K C) (X:K.In h) (hx:h.get? a=some o) (hc:o.cls=.ref C) (hq:R (.ok (.ret (.ref C))) ⟨h,g,d,t,os⟩):
  codeAny (model prog w) A (.call (.builtin "getset_descriptor.__get__") ⟨[.builtin "object.__class__",.ref a,.ref C],[]⟩) R ⟨h,g,d,t,os⟩:=by
 have hT5:(⟨h,g,d,t,os⟩:Shared).TypeIs (.builtin "object.__class__") "getset_descriptor" :=D1;have so:PySem.W.subIn K (.ref C) (.type (".".intercalate ("object.__class__".cutAt '.').dropLast))=some true:=by rw[F.owner_object_class];exact z.so
 refine codeAny_call_builtin F.slot_gs_get.plain F.entry_gs_get (F.slot_gs_get.check _ _ _ _ _ _ _ _ hT5 (F.args_gs_get _ _ _) ?_)
 repeat (any_goals (first|assumption|(with_reducible refine Dl hx ?_;rw[hc])|with_reducible refine (PySem.W.looks_subIn X so).at ?_|wp_step))
 refine⟨Code.quiet_builtin _ (by decide+kernel),codeAny_builtin F.entry_object_class ?_⟩
 repeat (any_goals (first|assumption|(with_reducible refine Dl hx ?_;rw[hc])|wp_step))
def Na {tk:Tok} {Q:Fin->Shared->Prop} (z:ExK K C) (X:K.In h) (hx:h.get? a=some o) (hc:o.cls=.ref C) (hq:Q (.done (.ret (.ref C))) ⟨h,g,d,t,os⟩):
  wpAny (model prog w) A (Builtin.«object.__getattribute__» ⟨[.ref a,.str "__class__" tk],[]⟩) Q E ⟨h,g,d,t,os⟩:=by
 have hT5:(⟨h,g,d,t,os⟩:Shared).TypeIs (.builtin "object.__class__") "getset_descriptor" :=D1;have f5:=D1;have f6:=F.slot_gs_get.lookup;have f7:=F.slot_gs_set.lookup
 repeat (any_goals (first|assumption|(with_reducible refine Dl hx ?_;rw[hc])|with_reducible refine (D4 X z.gc).at ?_|wp_step))
 refine MZ z X hx hc ?_
 repeat (any_goals (first|assumption|wp_step))
def Nb {tk:Tok} {R:Result->Shared->Prop} (z:ExK K C) (X:K.In h) (hx:h.get? a=some o) (hc:o.cls=.ref C) (hq:R (.ok (.ret (.ref C))) ⟨h,g,d,t,os⟩):
  codeAny (model prog w) A (.call (.builtin "BaseException.__getattribute__") ⟨[.ref a,.str "__class__" tk],[]⟩) R ⟨h,g,d,t,os⟩:=by
 have hp:plainId "BaseException.__getattribute__" =true:=by decide+kernel
 have hk:builtinKind "BaseException.__getattribute__" =some .slot:=by decide+kernel
 have hs:splitId "BaseException.__getattribute__" =some ("BaseException","__getattribute__"):=by decide+kernel
 refine codeAny_call_builtin hp F.entry_bexc_ga ?_
 have ha:=F.args_bexc_ga (.ref a) (.str "__class__" tk);have l:PySem.W.Looks (model prog w) h (typeOf (.ref a)) (.ref C):=by
  have q:=PySem.W.Looks.ld (M:=model prog w) (part:=none) hx;rw[<-hc];exact q.andThen .now
 have li:PySem.W.Looks (model prog w) h (isInstance (.ref a) (.type "BaseException")) true:=l.andThen (PySem.W.looks_subIn X z.sb);exact PySem.W.check_slot (i:="BaseException.__getattribute__") (owner:="BaseException") (n:="__getattribute__") (self:= .ref a) (rest:=[.str "__class__" tk]) (kw:=[]) hk hs li ha (Na z X hx hc hq)
def Nc {tk:Tok} {fill:Bool} {Q:VP} (z:ExK K C) (X:K.In h) (hx:h.get? a=some o) (hc:o.cls=.ref C) (hq:Q (.ref C) ⟨h,g,d,t,os⟩):
  wpAny (model prog w) A (getAttrBy (.ref a) (.str "__class__" tk) fill) Q E ⟨h,g,d,t,os⟩:=by
 have f3:bindSpecial (.builtin "BaseException.__getattribute__") (.ref a)=pure (.builtin "BaseException.__getattribute__",[.ref a]):=by kernel_rfl
 have hx2:(Value.builtin "BaseException.__getattribute__" ==Value.builtin "object.__getattribute__")=false:=by decide+kernel
 have hx1:(onTheHeap (Value.ref C) && Value.builtin "BaseException.__getattribute__" ==Value.builtin "object.__getattribute__")=false:=by rw[hx2];rfl
 repeat (any_goals (first|assumption|(with_reducible refine Dl hx ?_;rw[hc])|with_reducible refine (D4 X z.ga).at ?_|with_reducible refine (D4 X z.gn).at ?_|wp_step))
 refine Nb z X hx hc ?_
 repeat (any_goals (first|assumption|wp_step))
def Nd {Q:Option Value->Shared->Prop} (z:ExK K C) (X:K.In h) (hx:h.get? a=some o) (hc:o.cls=.ref C) (hq:Q (some (.ref C)) ⟨h,g,d,t+1,os⟩):wpAny (model prog w) A (getAttr? (.ref a) "__class__") Q E ⟨h,g,d,t,os⟩:=by
 unfold getAttr? getAttrBy?
 repeat (any_goals (first|assumption|with_reducible refine Nc z X hx hc ?_|wp_step))
def Nf (z:ExK K C):PySem.W.KitX K (.ref a) (.ref C) (IW a (.ref C)) where
 ty:=fun M h _ ⟨o,vs,hx,hc,_⟩=>by
  have q:=PySem.W.Looks.ld (M:=M) (part:=none) hx;rw[<-hc];exact q.andThen .now
 it:=fun M h X _=>by
  have e:=z.it;unfold PySem.W.clsIn at e
  split at e
  .rename_i c' d' cd' sl' ho
   intro A' Q' E' s' k q;unfold isType loadHead;exact Ac (wpAny_loadPart (k _ _ (X _ _ ho)) (Ag q))
  .cases e
 ne:=fun h tp dd its n sl X htp=>by
  refine Bool.eq_false_iff.mpr fun q=>?_
  cases Value.ref.inj (Bt.mp q);have e:=z.it;unfold PySem.W.clsIn at e
  split at e
  .rename_i c' d' cd' sl' ho
   cases (X _ _ ho).symm.trans htp
  .cases e
 ca:=fun {_ _ _ _ _ s} X ⟨o,vs,hx,hc,_⟩ k=>by
  obtain⟨h,g,d,t,os⟩:=s;exact Nd z X hx hc k
def Ng {X:Cx} {pins:AL} {σ:St} {H:Hp} {s:Shared} {Q:VP} {c:Value} {b:Bool} (z:ExK X.K C) (I:Inv X pins σ H s) (ha:H a=some (excO a (.ref C))) (e:PySem.W.kitOne X.K (.ref C) c=some b) (hq:∀tk,Q (.bool b) {s with toks:=tk}):
  wpAny (model X.prog X.w) A (call (.builtin "isinstance") [.ref a,c]) Q E s:=by
 obtain⟨p,_⟩:=(show ObjOk X.prog X.w H s.heap a (excO a (.ref C)) from I.hok a _ ha)
 exact Bj (Nf z) I.kIn p e (fun z=>nomatch z) hq
end
end L2
namespace L4
open PySem PySem.W PyProof.Rows L2
def FJ (tb:String->Option Builtin) (p:Program) (w:World) (m:Nat) (ann:Option Value):Nat->SharedT->Thread->Option SharedT
 |0,_,_=>none
 |n+1,s,t=>match through t with
  |true=>some s
  |false=>match stepOk m ann t with
   |false=>none
   |true=>match stepT (denote tb) p w s t with
    |some (s',t')=>FJ tb p w m ann n s' t'
    |none=>none
theorem IZ {tb:String->Option Builtin} {p:Program} {w:World} {m:Nat} {ann:Option Value}:∀{n:Nat} {s s':SharedT} {t:Thread},FJ tb p w m ann n s t=some s'->topRun tb p w m ann n s.abs t=some s'.abs
 |0,_,_,_,h=>by cases h
 |n+1,s,s',t,h=>by
  unfold FJ at h;unfold topRun;cases he:through t with
  |true=>rw[he]at h;cases h;rfl
  |false=>
   rw[he]at h;cases hk:stepOk m ann t with
   |false=>rw[hk]at h;cases h
   |true=>
    rw[hk]at h;cases hs:stepT (denote tb) p w s t with
    |none=>rw[hs]at h;cases h
    |some r=>
     obtain⟨s2,t2⟩:=r;rw[hs]at h;rw[stepT_spec hs];exact IZ h
def Ja:List Obj->Nat->BT->BT
 | [],_,t=>t
 |o::r,n,t=>Ja r (n+1) (t.ins n o)
def boot (P:Params) (os:OsState):SharedT:=⟨Ja (boot_heap P).objs.toList 0 .nil,11,(boot_heap P).life,Array.mk [],boot_drawn,boot_toks,os⟩
def Nh (P:Params) (os:OsState):(boot P os).abs=⟨boot_heap P,Array.mk [],boot_drawn,boot_toks,os⟩:=by kernel_rfl
def Ni (P:Params):((boot_heap P).isNs mainGlobals,(boot_heap P).objs.size,(boot_heap P).nsMap mainGlobals "__annotations__")=(true,11,some (.ref 6)):=by kernel_rfl
section
variable (p q:Program) (loose:List Str) {β:Type} (obs:Heap->β)
def looks (P:Params) (s:Shared):=
 ((staticsOk (importedModules p.main.body) (boot_heap P) s.heap && namesBound p s.heap && gensDone s && laidKept (boot_heap P) s.heap),openSeen q loose (importedModules p.main.body) (fun _=>true) true s,obs s.heap)
def Jb (N:Nat) (w:World) (os:OsState):=(FJ treeTable p w 11 (some (.ref 6)) N (boot w.params os) (topStub p)).map fun s=>looks p q loose obs w.params s.abs
end
def left_one {p q:Program} {loose:List Str} {β:Type} {obs:Heap->β} {good:β} {N:Nat} (e:opening p=plainProg p.main.scope.names) (hN:Nat.ble 600 N=true) (f:∀s,fenceModules? p s=some s)
  (h:∀w os,Jb p q loose obs N w os=some (true,openGood q loose,good)):LeftO p q loose (fun _=>true) (fun s=>obs s.heap) (fun _=>good) N:=fun w=>by
 obtain⟨⟨h0,gs,d,k,os⟩,e1,e2⟩:=D5.mp (boot_open e hN f w);obtain⟨rfl,rfl,rfl,rfl⟩:h0=boot_heap w.params/\gs=Array.mk []/\d=boot_drawn/\k=boot_toks:=by simpa using e2
 obtain⟨s1,r1,r2⟩:=D5.mp (h w os);have r3:=IZ r1;rw[Nh]at r3;obtain⟨z1,z2,z3⟩:_/\_/\_:=by simpa only[Prod.mk.injEq] using Ni w.params
 obtain⟨l1,l2,l3⟩:_/\_/\_:=by simpa only[looks,Prod.mk.injEq] using r2
 have t:topFrom treeTable p w N ⟨boot_heap w.params,Array.mk [],boot_drawn,boot_toks,os⟩=some s1.abs:=by
  unfold topFrom;dsimp only;rw[z1,z2,z3,r3];show (match staticsOk (importedModules p.main.body) (boot_heap w.params) s1.abs.heap && namesBound p s1.abs.heap && gensDone s1.abs && laidKept (boot_heap w.params) s1.abs.heap with|true=>_|false=>_)=_
  rw[l1]
 unfold openEnds;rw[e1];show (topFrom treeTable p w N _).map _=_;rw[t];exact congrArg some (Prod.ext l2 l3)
def frag (as:List Addr) (h:Heap):Frag:=as.filterMap fun a=>(h.get? a).map fun o=>(a,o)
def Nj {as:List Addr} {h:Heap}:(frag as h).In h:=by
 intro a o e
 induction as with
 |nil=>cases e
 |cons b r ih=>
  unfold frag at e;rw[De]at e;cases hb:h.get? b with
  |none=>rw[hb]at e;exact ih e
  |some ob=>
   rw[hb]at e;simp only[A5,List.lookup]at e
   split at e
   .rename_i q;cases e;rw[Bt.mp q];exact hb
   .exact ih e
def Jc:Value->Bool
 |.none=>true
 |_=>false
def Nk {v:Value} (h:Jc v=true):v=.none:=by cases v<;>first|rfl|cases h
def FK (K:Frag) (qual:Str):Option (Option Value)->Option (Str×Str×Arguments×FuncBody×Scope×Bool)
 |some (some (.ref f))=>match K.lookup f with
  |some ⟨_,_,.func fd,_⟩=>some (fd.name,fd.qualname,fd.params,fd.body,fd.scope,(Nat.beq fd.globals mainGlobals && fd.closure.isEmpty && Jc fd.defaults && Nat.beq fd.builtins builtinsNs && codeIn K fd.code qual && isFn K (.ref f)))
  |_=>none
 |_=>none
def FL (x qual:Str) (st:Stmt):Option (Str×Str×Arguments×FuncBody×Scope×Bool):=some (x,qual,EG st,.stmts (CJ st),zR st,true)
def Nl {K:Frag} {x qual:Str} {st:Stmt} {v:Option (Option Value)} (e:FK K qual v=FL x qual st):
  ∃f fd,v=some (some (.ref f))/\Fun K x qual st f fd/\isFn K (.ref f)=true:=by
 unfold FK at e
 split at e
 .rename_i f
  split at e
  .rename_i oc od fd sl hl
   unfold FL at e;simp only[Cs,Prod.mk.injEq,Be]at e;obtain⟨e1,e2,e3,e4,e5,⟨⟨⟨⟨h1,h2⟩,h3⟩,h4⟩,h5⟩,h6⟩:=e
   refine⟨f,fd,rfl,⟨⟨oc,od,fd.kwdefaults,fd.doc,fd.pyModule,fd.annotations,fd.code,fd.closureTuple,sl,?_,hl,h5⟩,?_⟩,h6⟩
   .obtain⟨a1,a2,a3,a4,a5,a6,a7,a8,a9,a10,a11,a12,a13,a14,a15⟩:=fd
    simp only at e1 e2 e3 e4 e5 h1 h2 h3 h4;have h1:=Nat.eq_of_beq_eq_true h1;have h2:=List.isEmpty_iff.mp h2;have h3:=Nk h3;have h4:=Nat.eq_of_beq_eq_true h4;subst e1 e2 e3 e4 e5 h1 h2 h3 h4;rfl
   .unfold keepIn
    simp only[hl]
  .cases e
 .cases e
inductive KV where
 |int (i:Int)
 |str (s:Str)
def EK:Option (Option Value)->Option KV
 |some (some (.int i _))=>some (.int i)
 |some (some (.str s _))=>some (.str s)
 |_=>none
def Nm {v:Option (Option Value)} {i:Int} (e:EK v=some (.int i)):∃t,v=some (some (.int i t)):=by
 unfold EK at e
 split at e
 .simp only[Cs,KV.int.injEq]at e;subst e;exact⟨_,rfl⟩
 .simp at e
 .cases e
def Nn {v:Option (Option Value)} {i:Str} (e:EK v=some (.str i)):∃t,v=some (some (.str i t)):=by
 unfold EK at e
 split at e
 .simp at e
 .simp only[Cs,KV.str.injEq]at e;subst e;exact⟨_,rfl⟩
 .cases e
def EL:Option (Option Value)->Bool
 |some none=>true
 |_=>false
def Jd {v:Option (Option Value)} (e:EL v=true):v=some none:=by
 unfold EL at e
 split at e
 .rfl
 .cases e
def FN (p:Program) (i:Nat):Stmt:=p.main.body.getD i (.Pass ⟨0,0,0,0⟩)
structure Ask where
 law:Nat
 at_:List Addr
 defs:List (Str×Nat)
 cls:List (Str×Nat×List (Str×Str×Nat)×List Str)
 bare:List Str
 con:List (Str×KV)
 exc:List (Str×Bool)
 tab:List (Str×Str×Bool)
def Np (K:Frag) (C:Addr):Bool:=
 plainGet K C Str.empty && hasDictIn K C && plainOver K C && (findIn K (.ref C) "__setattr__" ==some (some (.builtin "object.__setattr__"))) && makesIn K C && keepIn K (.ref C)
def Nq (K:Frag) (c:Str×Nat×List (Str×Str×Nat)×List Str):Option Value->Option (List (Option (Str×Str×Arguments×FuncBody×Scope×Bool))×Bool×List Bool)
 |some (.ref C)=>some (c.2.2.1.map (fun m=>FK K m.2.1 (findIn K (.ref C) m.1)),Np K C,c.2.2.2.map fun a=>EL (findIn K (.ref C) a))
 |_=>none
def GO (K:Frag) (C:Addr):Bool:=
 excIn K C bmV "ValueError.__new__" && (clsIn K C).isSome && (findIn K (.ref C) "__getattribute__" ==some (some (.builtin "BaseException.__getattribute__"))) && EL (findIn K (.ref C) "__getattr__") && (findIn K (.ref C) "__class__" ==some (some (.builtin "object.__class__"))) && (subIn K (.ref C) (.type "BaseException")==some true) && (subIn K (.ref C) (.type "object")==some true)
def Je (K:Frag) (b:Bool):Option Value->Bool
 |some (.ref C)=>match b with
  |true=>GO K C
  |false=>true
 |_=>false
def Nr (K:Frag) (v:Bool):Option Value->Option Value->Bool
 |some (.ref C),some (.ref B)=>exmOne K (.ref C) (.ref B)==some v && kitOne K (.ref C) (.ref B)==some v
 |_,_=>false
def seenK (A:Ask) (K:Frag):=
 (A.defs.map (fun d=>FK K d.1 (nsIn K mainGlobals d.1)),A.cls.map (fun c=>Nq K c (nsIn K mainGlobals c.1).join),A.bare.map (fun b=>EL (nsIn K mainGlobals b)),A.con.map (fun c=>EK (nsIn K mainGlobals c.1)),A.exc.map (fun c=>Je K c.2 (nsIn K mainGlobals c.1).join),A.tab.map fun r=>Nr K r.2.2 (nsIn K mainGlobals r.1).join (nsIn K mainGlobals r.2.1).join)
def seen (A:Ask) (h:Heap):=seenK A (frag A.at_ h)
def good (p:Program) (A:Ask):=
 (A.defs.map (fun d=>FL d.1 d.1 (FN p d.2)),
  A.cls.map (fun c=>some (c.2.2.1.map (fun m=>FL m.1 m.2.1 (M9 (FN p c.2.1) m.2.2)),true,c.2.2.2.map fun _=>true)),
  A.bare.map (fun _=>true),A.con.map (fun c=>some c.2),A.exc.map (fun _=>true),A.tab.map fun _=>true)
def lawView (A:Ask) (p:Program):Program:={p with main:={p.main with body:=[FN p A.law]}}
def looseOf (p:Program):List Str:=(p.main.scope.names.map (·.1)).filter fun x=> !(x=="law")
def claim (A:Ask) (N:Nat) (p:Program) (w:World) (os:OsState):=Jb p (lawView A p) (looseOf p) (seen A) N w os
def goal (A:Ask) (p:Program):=some (true,openGood (lawView A p) (looseOf p),good p A)
section
variable {p:Program} {A:Ask} {K:Frag}
def DR {α β:Type} {f g:α->β} {l:List α} {i:Nat} {a:α} (e:l.map f=l.map g) (h:l[i]? =some a):f a=g a:=by
 have:=congrArg (fun z=>z[i]?) e
 simp only[A2,h,A5,Cs]at this;exact this
def def_at (S:seenK A K=good p A) (i:Nat) {d:Str×Nat} (h:A.defs[i]? =some d):∃f fd,nsIn K mainGlobals d.1=some (some (.ref f))/\Fun K d.1 d.1 (FN p d.2) f fd:=by
 obtain⟨f,fd,e,F,_⟩:=Nl (DR (congrArg (fun z=>z.1) S) h)
 exact⟨f,fd,e,F⟩
def bare_at (S:seenK A K=good p A) (i:Nat) {b:Str} (h:A.bare[i]? =some b):nsIn K mainGlobals b=some none:=Jd (DR (congrArg (fun z=>z.2.2.1) S) h)
def int_at (S:seenK A K=good p A) (i:Nat) {x:Str} {n:Int} (h:A.con[i]? =some (x,.int n)):∃t,nsIn K mainGlobals x=some (some (.int n t)):=Nm (DR (congrArg (fun z=>z.2.2.2.1) S) h)
def str_at (S:seenK A K=good p A) (i:Nat) {x:Str} {n:Str} (h:A.con[i]? =some (x,.str n)):∃t,nsIn K mainGlobals x=some (some (.str n t)):=Nn (DR (congrArg (fun z=>z.2.2.2.1) S) h)
def Nt {v:Option (Option Value)} {x:Value} (h:v.join=some x):v=some (some x):=by
 cases v with
 |none=>cases h
 |some v=>cases h;rfl
def exc_at (S:seenK A K=good p A) (i:Nat) {x:Str} {b:Bool} (h:A.exc[i]? =some (x,b)):∃C,nsIn K mainGlobals x=some (some (.ref C))/\(b=true->excIn K C bmV "ValueError.__new__" =true/\ExK K C):=by
 have e:=DR (congrArg (fun z=>z.2.2.2.2.1) S) h
 unfold Je at e
 split at e
 .rename_i C hC
  refine⟨C,Nt hC,fun hb=>?_⟩
  have hb:b=true:=hb;subst hb;have e:GO K C=true:=e;unfold GO at e;simp only[Be]at e;obtain⟨⟨⟨⟨⟨⟨h1,h2⟩,h3⟩,h4⟩,h5⟩,h6⟩,h7⟩:=e;exact⟨h1,h2,Bt.mp h3,Jd h4,Bt.mp h5,Bt.mp h6,Bt.mp h7⟩
 .cases e
def tab_at (S:seenK A K=good p A) (i:Nat) {x y:Str} {v:Bool} {C B:Addr} (h:A.tab[i]? =some (x,y,v)) (hC:nsIn K mainGlobals x=some (some (.ref C))) (hB:nsIn K mainGlobals y=some (some (.ref B))):exmOne K (.ref C) (.ref B)=some v/\kitOne K (.ref C) (.ref B)=some v:=by
 have e:=DR (congrArg (fun z=>z.2.2.2.2.2) S) h
 dsimp only at e;rw[hC,hB]at e;have e:(exmOne K (.ref C) (.ref B)==some v && kitOne K (.ref C) (.ref B)==some v)=true:=e;rw[Be]at e;exact⟨Bt.mp e.1,Bt.mp e.2⟩
end
section
variable {K:Frag} {x qual:Str} {st:Stmt} {f:Addr} {fd:FuncData} {p1 p2 p3 p4 p5 p6 p7 p8:Str}
abbrev Bd (x qual:Str) (st:Stmt) (us:List Value) (r:List (Str×Value)):Prop:=∀(kV doc pm:Value) (an:Option Addr) (cdv ct:Value),bindArgs (fnOf x qual (EG st) (CJ st) (zR st) .none kV doc pm an cdv ct) ⟨us,[]⟩=pure r
def DS {us:List Value} {n:Nat} (h:us.length=n+1):∃a r,us=a::r/\r.length=n:=by
 cases us with
 |nil=>cases h
 |cons a r=>exact⟨a,r,rfl,by simpa using h⟩
theorem b1 (F:Fun K x qual st f fd) (h:∀a,Bd x qual st [a] [(p1,a)]):Binds K fd [p1] []:=F.binds fun _ _ _ _ _ _ us h0=>by
 obtain⟨a,u1,rfl,h1⟩:=DS h0;obtain rfl:u1=[]:=Dm h1;exact h _ _ _ _ _ _ _
theorem b2 (F:Fun K x qual st f fd) (h:∀a b,Bd x qual st [a,b] [(p1,a),(p2,b)]):Binds K fd [p1,p2] []:=F.binds fun _ _ _ _ _ _ us h0=>by
 obtain⟨a,u1,rfl,h1⟩:=DS h0;obtain⟨b,u2,rfl,h2⟩:=DS h1;obtain rfl:u2=[]:=Dm h2;exact h _ _ _ _ _ _ _ _
theorem b3 (F:Fun K x qual st f fd) (h:∀a b c,Bd x qual st [a,b,c] [(p1,a),(p2,b),(p3,c)]):Binds K fd [p1,p2,p3] []:=F.binds fun _ _ _ _ _ _ us h0=>by
 obtain⟨a,u1,rfl,h1⟩:=DS h0;obtain⟨b,u2,rfl,h2⟩:=DS h1;obtain⟨c,u3,rfl,h3⟩:=DS h2;obtain rfl:u3=[]:=Dm h3;exact h _ _ _ _ _ _ _ _ _
theorem binds_law (F:Fun K x qual st f fd) (h:∀a,Bd x qual st [a] [(p1,a)]) (s:Shared) (u:Value):BindsTo s fd ⟨[u],[]⟩ [(p1,u)]:=by
 obtain⟨oc,od,kV,doc,pm,an,cdv,ct,osl,rfl,lk,hcd⟩:=F.ex;exact .of_eq (h u _ _ _ _ _ _)
end
def walk_one {l:OpenLaw} {n k:Nat} {q:Program} {loose:List Str} {XP:(Str->Option Value)->Heap->Prop} {A:Ask} {d:DefRec} {CX:World->qV} {sp:Frag->Sp} {x:Str}
  (hn:l.most=some n) (hn2:n<=sizeLine) (hdf:d.params.defaults=[]) (hr:Room k callerA)
  (F:∀(w:World) (mg:Str->Option Value) (fa:Addr) (h:Heap) (K:Frag),K.In h->h.Ns mainGlobals mg->seenK A K=good l.prog A->mg d.name=some (.ref fa)->
   ∃fd:FuncData,(∀(s:Shared) (u:Value),BindsTo s fd ⟨[u],[]⟩ [(x,u)])/\∀base:Heap,K.In base->base.Ns mainGlobals mg->FnOk l.prog w K mg base (CX w) k fa fd [x] (sp K))
  (hsp:∀(K:Frag) (H:Hp) (a:Addr) (ns:List Int),ns.length<=n->Only H->SqL K H a (ns.map V.int)->sp K [.ref a] H (fun v _=>v=.bl true) fun _ _ _=>False)
  (hCX:∀(w:World) (H:Hp) (s:Shared) (e:Value) (s':Shared),CX w [] H s (fun _ _ _=>False) e s'->False):
  WalkO q loose XP (fun _ h=> ∃K:Frag,K.In h/\seenK A K=good l.prog A) l.row.toRowW d [] (fun f vs=>PySem.call f vs):=by
 refine Att.attach_call hn hdf fun w s0 s1 mg mb fa o pm cd doc a vs ns G Y ho hd hcd hmg hobj hints hlen hg=>?_
 obtain⟨K,KX,S⟩:=Y;obtain⟨fd,hb,hF⟩:=F w mg fa _ K KX G.T.g S hmg;exact M8 KX G.T.g G.T.b G.T.builtins G.T.nolimit hg hobj hints (Bc hlen hn2) hr hF hb (fun H hO hS=>hsp K H a ns hlen hO hS) fun H e s'=>hCX w H s1 e s'
def seen_ok {A:Ask} {p:Program} (w:World) (s:Shared) (e:seen A s.heap=good p A):∃K:Frag,K.In s.heap/\seenK A K=good p A:=⟨_,Nj,e⟩
def seen_keeps {A:Ask} {p:Program} (w:World) (h h':Heap) (y:∃K:Frag,K.In h/\seenK A K=good p A) (k:∀b o,h.get? b=some o->h'.get? b=some o):∃K:Frag,K.In h'/\seenK A K=good p A:=
 let ⟨K,a,b⟩:=y
 ⟨K,a.keeps k,b⟩
end L4
namespace L2
open PySem PySem.Spec PyProof.Rows
def Its (z:Str):It:=⟨fun i _=>i<z.length,fun i H x H'=>H'=H/\∃c,z.cps[i]? =some c/\x=.str ⟨#[c]⟩,fun i _=>z.length<=i⟩
def Nu {P:Program} {w:World} {K:FG} {tg:Expr} (it:Addr) (z:Str) (t:Tok):Turn P w K tg (Its z) [it] it (fun i h=>h.IsStrIter it "str_ascii_iterator" z t i) where
 mem:=by simp
 obj:=fun i h st b hb=>by
  have e:b=it:=by simpa using hb
  subst e;obtain⟨o,e,c,d⟩:=st;exact⟨o,e,fun v y=>by rw[d]at y;cases y⟩
 keep:=fun i h h' st k=>by
  obtain⟨o,e,r⟩:=st;exact⟨o,k it (by simp) o e,r⟩
 item:=by
  intro X hP hw hK hc i pins s σ H E I hf st hg;subst hP hw hK;have hi:i<z.cps.size:=hg;obtain⟨f0,f1,f2,f3,f4,f5⟩:=hf it (by simp)
  refine wpAny_pyNext_ascii_item st (c:=z.cps[i]) (by simp[hi]) fun h' st' sb=>?_
  have I1:Inv X pins σ H {s with heap:=h',toks:=s.toks+1}:=I.turned (fun b o hb e=>(sb.2 b hb).trans e) f0 f1 f3 f4 f5
  obtain⟨o,e,c,d⟩:=id st';exact⟨_,rfl,EA (s:={s with heap:=h',toks:=s.toks+1}) e c d (by decide) ⟨.str ⟨#[z.cps[i]]⟩,H,I1,⟨_,rfl⟩,⟨rfl,_,by simp[hi],rfl⟩,st',fun b hb=>(hf b hb).1⟩⟩
 done:=by
  intro X hP hw hK hc i pins s σ H E I hf st hg;subst hP hw hK;have hi:z.cps.size<=i:=hg;obtain⟨f0,f1,f2,f3,f4,f5⟩:=hf it (by simp)
  exact wpAny_pyNext_ascii_end (I.ok.hd hc) st (by simp[hi]) fun h' eb=>⟨rfl,I.turned (t':=s.toks) (fun b o hb e=>eb b o hb e) f0 f1 f3 f4 f5⟩
 self:=fun _ _ _ _ _ st h=>wpAny_pyIter_striter_ascii st h
def Nv {P:Program} {w:World} {K:FG} {tg:Expr} (it:Addr) (z:Str) (t:Tok):Turn P w K tg (Its z) [it] it (fun i h=>h.IsStrIter it "str_iterator" z t i) where
 mem:=by simp
 obj:=fun i h st b hb=>by
  have e:b=it:=by simpa using hb
  subst e;obtain⟨o,e,c,d⟩:=st;exact⟨o,e,fun v y=>by rw[d]at y;cases y⟩
 keep:=fun i h h' st k=>by
  obtain⟨o,e,r⟩:=st;exact⟨o,k it (by simp) o e,r⟩
 item:=by
  intro X hP hw hK hc i pins s σ H E I hf st hg;subst hP hw hK;have hi:i<z.cps.size:=hg;obtain⟨f0,f1,f2,f3,f4,f5⟩:=hf it (by simp)
  refine wpAny_pyNext_wide_item st (c:=z.cps[i]) (by simp[hi]) fun h' st' sb=>?_
  have I1:Inv X pins σ H {s with heap:=h',toks:=s.toks+1}:=I.turned (fun b o hb e=>(sb.2 b hb).trans e) f0 f1 f3 f4 f5
  obtain⟨o,e,c,d⟩:=id st';exact⟨_,rfl,EA (s:={s with heap:=h',toks:=s.toks+1}) e c d (by decide) ⟨.str ⟨#[z.cps[i]]⟩,H,I1,⟨_,rfl⟩,⟨rfl,_,by simp[hi],rfl⟩,st',fun b hb=>(hf b hb).1⟩⟩
 done:=by
  intro X hP hw hK hc i pins s σ H E I hf st hg;subst hP hw hK;have hi:z.cps.size<=i:=hg;obtain⟨f0,f1,f2,f3,f4,f5⟩:=hf it (by simp)
  exact wpAny_pyNext_wide_end (I.ok.hd hc) st (by simp[hi]) fun h' eb=>⟨rfl,I.turned (t':=s.toks) (fun b o hb e=>eb b o hb e) f0 f1 f3 f4 f5⟩
 self:=fun _ _ _ _ _ st h=>wpAny_pyIter_striter_wide st h
section
variable {X:Cx} {tg:Expr}
def iStr (tl:TE):TI:=fun σ H R=>tl σ H fun x H1=> ∃z,x=.str z/\R (Its z) H1
def Nx {l:Expr} {tl:TE} (hl:PE X l tl):PI X tg l (iStr tl):=by
 intro pins s σ H R I h
 refine zp (hl pins s σ H _ I h) fun v s1 ⟨x,H1,I1,r1,q1⟩=>?_
 obtain⟨z,e,q⟩:=q1;subst e;obtain⟨t,rfl⟩:=r1;have fp:∀b∈[s1.heap.objs.size],yz X pins H1 b:=fun b hb=>by
  have e:b=s1.heap.objs.size:=by simpa using hb
  subst e;exact I1.fpOk (Af _) (I1.hok.fresh (Af _))
 cases ha:z.cps.all (· < 128)
 .exact wpAny_pyIter_wide ha ⟨s1.heap.objs.size,[s1.heap.objs.size],_,_,H1,rfl,I1.kept (t':=s1.toks) fun b o e=>Aq _ e,Nv _ z t,⟨_,A1 _ rfl,rfl,rfl⟩,fp,q⟩
 .exact wpAny_pyIter_ascii ha ⟨s1.heap.objs.size,[s1.heap.objs.size],_,_,H1,rfl,I1.kept (t':=s1.toks) fun b o e=>Aq _ e,Nu _ z t,⟨_,A1 _ rfl,rfl,rfl⟩,fp,q⟩
def rSlS:V->Option Int->Option Int->Hp->VK->Prop:=fun x lo hi H Q=> ∃z,x=.str z/\z.length<=sizeLine/\Q (.str (Txt.slice z lo hi)) H
def Jf {v:Value} {o:Option Int} (h:IsPart v o):∃p:Option (Int×Tok),v=partValue p/\p.map (·.1)=o:=by
 cases h with
 |none=>exact⟨none,rfl,rfl⟩
 |int i t=>exact⟨some (i,t),rfl,rfl⟩
def Ny:SlR X rSlS:=by
 intro pins s σ H x v vl vu lo hi sl Q I rx hs pl pu h;obtain⟨z,rfl,hz,q⟩:=h;obtain⟨t,rfl⟩:=rx;obtain⟨p,rfl,rfl⟩:=Jf pl;obtain⟨p',rfl,rfl⟩:=Jf pu
 refine⟨"str",_,slot_str_getitem.lookup,typeIs_str _ _ _,?_⟩
 refine wpAny_getItem_str_slice (l:=p) (u:=p') (st:=none) hs rfl ?_
 exact post_val_or_str ⟨Bc (Txt.slice_le z _ _) hz,fun t' k=>⟨.str (Txt.slice z (p.map (·.1)) (p'.map (·.1))),H,I.tok k,⟨t',rfl⟩,q⟩⟩
end
def Nz (z:Str) (c:Nat):(!(Builtin.Str.occurrences z ⟨#[c]⟩ 0 z.length 1).isEmpty)=decide (c∈z.cps.toList):=StrLaws.found_one z c
end L2
namespace L2
open PySem PySem.Spec PySem.W PyProof.Rows
section
variable {X:Cx}
def vals3 {x y z:V} {us:List Value} (r:Vals [x,y,z] us):∃u v t,us=[u,v,t]/\RelV x u/\RelV y v/\RelV z t:=by
 cases r with
 |cons a r=>cases r with
  |cons b r=>cases r with
   |cons c r=>cases r;exact⟨_,_,_,rfl,a,b,c⟩
end
theorem Paired.of_get {α β:Type} {F:α->β->Prop}:∀{l:List α} {m:List β},l.length=m.length->(∀(i:Nat) a b,l[i]? =some a->m[i]? =some b->F a b)->PySem.Paired F l m
 | [],[],_,_=>.nil
 | [],_::_,h,_=>by simp at h
 |_::_,[],h,_=>by simp at h
 |a::l,b::m,h,f=>.cons (f 0 a b rfl rfl) (Paired.of_get (by simpa using h) fun i x y hx hy=>f (i+1) x y (by simpa using hx) (by simpa using hy))
end L2
namespace L3
open PySem L2
inductive V3 where
 |non|bl (b:Bool)|int (i:Int)|str (x:Str)|ty (n:String)
 |tup (xs:List V3)|lst (xs:List V3)|scr (ns:List Int)
 |dK (kvs:List (yY×V3))|dT (kvs:List (MK×V3))
 |obj (c:Str) (fs:List (Str×V3))|cls (c:Str)|fn (n:Str) (env:List V3)
 |loc (n:Nat)
inductive C3 where
 |lst (xs:List V3)|dK (kvs:List (yY×V3))|dT (kvs:List (MK×V3))|ins (c:Str) (fs:List (Str×V3))|dead
inductive Vl where
 |v (x:V3)|m (c:C3)
structure X3 where
 c:Str
 nm:Option V3
abbrev S3:=List (Option Vl)
abbrev H3:=List C3
inductive Res (α:Type) where
 |ok (r:α) (h:H3)|ex (x:X3) (h:H3)|no
abbrev E3:=S3->H3->Res Vl
def C3.fz:C3->Option V3
 |.lst xs=>some (.lst xs)
 |.dK kvs=>some (.dK kvs)
 |.dT kvs=>some (.dT kvs)
 |.ins c fs=>some (.obj c fs)
 |.dead=>none
def Vl.fz:Vl->Option V3
 |.v x=>some x
 |.m c=>c.fz
def Res.bind {α β:Type} (r:Res α) (k:α->H3->Res β):Res β:=match r with
 |.ok r h=>k r h
 |.ex x h=>.ex x h
 |.no=>.no
structure Kx where
 K:FG
 cl:Str->Option Addr
def KnL (K:FG) (a:Addr) (ns:List Int):Prop:=
 ∃(o:Obj) (its:Array Value) (n:Nat),K.lookup a=some o/\o.cls=.type "list" /\o.dict=none/\o.data=.seq its n/\its.size<=sizeLine/\Vals (ns.map V.int) its.toList
mutual
inductive Rep (κ:Kx) (β:AO) (O:Addr->Prop) (H:Hp):V3->V->Prop
 |non:Rep κ β O H .non .non
 |bl (b:Bool):Rep κ β O H (.bl b) (.bl b)
 |int (i:Int):Rep κ β O H (.int i) (.int i)
 |str (x:Str):Rep κ β O H (.str x) (.str x)
 |ty (n:String):Rep κ β O H (.ty n) (.ty n)
 |tup {xs:List V3} {ys:List V} {a:Addr}:H a=some (.tup ys)->some a∉β->¬O a->Reps κ β O H xs ys->Rep κ β O H (.tup xs) (.ref a)
 |lst {xs:List V3} {ys:List V} {a:Addr}:H a=some (.lst ys)->some a∉β->¬O a->Reps κ β O H xs ys->Rep κ β O H (.lst xs) (.ref a)
 |scr {ns:List Int} {a:Addr} {o:Obj}:H a=some (.frz o (.lst (ns.map V.int)))->some a∉β->¬O a->Rep κ β O H (.scr ns) (.ref a)
 |scrK {ns:List Int} {a:Addr}:KnL κ.K a ns->Rep κ β O H (.scr ns) (.ref a)
 |dK {kvs:List (yY×V3)} {ws:List (yY×V)} {a:Addr}:H a=some (.dK ws)->some a∉β->¬O a->RepP κ β O H kvs ws->Rep κ β O H (.dK kvs) (.ref a)
 |dT {kvs:List (MK×V3)} {ws:List (MK×V)} {a:Addr}:H a=some (.dT ws)->some a∉β->¬O a->RepP κ β O H kvs ws->Rep κ β O H (.dT kvs) (.ref a)
 |obj {c:Str} {C:Addr} {fs:List (Str×V3)} {gs:List (Str×V)} {a dx:Addr}:κ.cl c=some C->H a=some (.ins C dx gs)->some a∉β->¬O a->RepP κ β O H fs gs->Rep κ β O H (.obj c fs) (.ref a)
 |cls {c:Str} {C:Addr}:κ.cl c=some C->Rep κ β O H (.cls c) (.ref C)
 |exc {c:Str} {C a:Addr}:κ.cl c=some C->H a=some (excO a (.ref C))->some a∉β->¬O a->Rep κ β O H (.fn c []) (.ref a)
 |loc {n:Nat} {v:V}:n<β.length->(∀a,β[n]? =some (some a)->v=.ref a)->Rep κ β O H (.loc n) v
inductive Reps (κ:Kx) (β:AO) (O:Addr->Prop) (H:Hp):List V3->List V->Prop
 |nil:Reps κ β O H [] []
 |cons {x:V3} {y:V} {xs:List V3} {ys:List V}:Rep κ β O H x y->Reps κ β O H xs ys->Reps κ β O H (x::xs) (y::ys)
inductive RepP (κ:Kx) (β:AO) (O:Addr->Prop) (H:Hp):{α:Type}->List (α×V3)->List (α×V)->Prop
 |nil {α:Type}:RepP κ β O H (α:=α) [] []
 |cons {α:Type} {k:α} {x:V3} {y:V} {xs:List (α×V3)} {ys:List (α×V)}:Rep κ β O H x y->RepP κ β O H xs ys->RepP κ β O H ((k,x)::xs) ((k,y)::ys)
end
structure Ext (M:Addr->Prop) (β:AO) (H:Hp) (β':AO) (H':Hp):Prop where
 keep:∀a o,H a=some o->some a∉β->¬M a->H' a=some o/\some a∉β'
 len:β.length<=β'.length
 bet:∀i a,i<β.length->β'[i]? =some (some a)->β[i]? =some (some a)
 there:∀a o,H a=some o->∃o',H' a=some o'
 nwb:∀(i:Nat) a,β.length<=i->β'[i]? =some (some a)->H a=none
def nwb0 {β:AO} {H:Hp}:∀(i:Nat) a,β.length<=i->β[i]? =some (some a)->H a=none:=fun i a h e=>by
 have:=(As.mp e).1;lia
abbrev No:Addr->Prop:=fun _=>False
def Ext.refl {M:Addr->Prop} {β:AO} {H:Hp}:Ext M β H β H:=⟨fun _ _ h n _=>⟨h,n⟩,Af _,fun _ _ _ h=>h,fun _ o h=>⟨o,h⟩,nwb0⟩
def Jg {β β1 β2:AO} {H H1:Hp} (t:∀a o,H a=some o->∃o',H1 a=some o') (bet:∀i a,i<β1.length->β2[i]? =some (some a)->β1[i]? =some (some a)) (n1:∀(i:Nat) a,β.length<=i->β1[i]? =some (some a)->H a=none)
  (n2:∀(i:Nat) a,β1.length<=i->β2[i]? =some (some a)->H1 a=none):∀(i:Nat) a,β.length<=i->β2[i]? =some (some a)->H a=none:=fun i a hi h=>by
 by_cases h1:i<β1.length
 .exact n1 i a hi (bet i a h1 h)
 .cases w:H a with
  |none=>rfl
  |some o=>
   obtain⟨o',z⟩:=t a o w;rw[n2 i a (by lia) h]at z;cases z
def Ext.trans0 {β β1 β2:AO} {H H1 H2:Hp} (a:Ext No β H β1 H1) (b:Ext No β1 H1 β2 H2):Ext No β H β2 H2:=
 ⟨fun x o h n m=>let ⟨h1,n1⟩:=a.keep x o h n m;b.keep x o h1 n1 m,Bc a.len b.len,fun i x hi h=>a.bet i x hi (b.bet i x (Ar hi a.len) h),fun x o h=>let ⟨o1,h1⟩:=a.there x o h;b.there x o1 h1,Jg a.there (fun i x hi h=>b.bet i x hi h) a.nwb b.nwb⟩
section
variable {κ:Kx} {β β':AO} {O O':Addr->Prop} {H H':Hp} {M:Addr->Prop}
mutual
theorem Rep.ext (e:Ext M β H β' H') (hM:∀a,M a->O a) (hO:∀a o,H a=some o->¬O a->¬O' a):∀{x:V3} {y:V},Rep κ β O H x y->Rep κ β' O' H' x y
 |_,_,.non=>.non
 |_,_,.bl b=>.bl b
 |_,_,.int i=>.int i
 |_,_,.str x=>.str x
 |_,_,.ty n=>.ty n
 |_,_,.tup h n o r=>let ⟨h1,n1⟩:=e.keep _ _ h n fun m=>o (hM _ m);.tup h1 n1 (hO _ _ h o) (Reps.ext e hM hO r)
 |_,_,.lst h n o r=>let ⟨h1,n1⟩:=e.keep _ _ h n fun m=>o (hM _ m);.lst h1 n1 (hO _ _ h o) (Reps.ext e hM hO r)
 |_,_,.scr h n o=>let ⟨h1,n1⟩:=e.keep _ _ h n fun m=>o (hM _ m);.scr h1 n1 (hO _ _ h o)
 |_,_,.scrK h=>.scrK h
 |_,_,.dK h n o r=>let ⟨h1,n1⟩:=e.keep _ _ h n fun m=>o (hM _ m);.dK h1 n1 (hO _ _ h o) (RepP.ext e hM hO r)
 |_,_,.dT h n o r=>let ⟨h1,n1⟩:=e.keep _ _ h n fun m=>o (hM _ m);.dT h1 n1 (hO _ _ h o) (RepP.ext e hM hO r)
 |_,_,.obj k h n o r=>let ⟨h1,n1⟩:=e.keep _ _ h n fun m=>o (hM _ m);.obj k h1 n1 (hO _ _ h o) (RepP.ext e hM hO r)
 |_,_,.cls k=>.cls k
 |_,_,.exc k h n o=>let ⟨h1,n1⟩:=e.keep _ _ h n fun m=>o (hM _ m);.exc k h1 n1 (hO _ _ h o)
 |_,_,.loc l h=>.loc (Ar l e.len) fun a q=>h a (e.bet _ _ l q)
theorem Reps.ext (e:Ext M β H β' H') (hM:∀a,M a->O a) (hO:∀a o,H a=some o->¬O a->¬O' a):∀{x:List V3} {y:List V},Reps κ β O H x y->Reps κ β' O' H' x y
 |_,_,.nil=>.nil
 |_,_,.cons a r=>.cons (Rep.ext e hM hO a) (Reps.ext e hM hO r)
theorem RepP.ext (e:Ext M β H β' H') (hM:∀a,M a->O a) (hO:∀a o,H a=some o->¬O a->¬O' a):∀{α:Type} {x:List (α×V3)} {y:List (α×V)},RepP κ β O H x y->RepP κ β' O' H' x y
 |_,_,_,.nil=>.nil
 |_,_,_,.cons a r=>.cons (Rep.ext e hM hO a) (RepP.ext e hM hO r)
end
end
section
variable {κ:Kx} {β β':AO} {O O':Addr->Prop} {H H':Hp} {M:Addr->Prop}
def Rep.sub (h:∀a,O' a->O a) {x:V3} {y:V} (r:Rep κ β O H x y):Rep κ β O' H x y:=r.ext (M:=No) Ext.refl (fun _ z=>z.elim) fun a _ _ n m=>n (h a m)
def Reps.sub (h:∀a,O' a->O a) {x:List V3} {y:List V} (r:Reps κ β O H x y):Reps κ β O' H x y:=r.ext (M:=No) Ext.refl (fun _ z=>z.elim) fun a _ _ n m=>n (h a m)
def RepP.sub (h:∀a,O' a->O a) {α:Type} {x:List (α×V3)} {y:List (α×V)} (r:RepP κ β O H x y):RepP κ β O' H x y:=r.ext (M:=No) Ext.refl (fun _ z=>z.elim) fun a _ _ n m=>n (h a m)
def Rep.ext0 (e:Ext No β H β' H') {x:V3} {y:V} (r:Rep κ β O H x y):Rep κ β' O H' x y:=r.ext e (fun _ z=>z.elim) fun _ _ _ n=>n
def Reps.ext0 (e:Ext No β H β' H') {x:List V3} {y:List V} (r:Reps κ β O H x y):Reps κ β' O H' x y:=r.ext e (fun _ z=>z.elim) fun _ _ _ n=>n
theorem Reps.length:∀{x:List V3} {y:List V},Reps κ β O H x y->x.length=y.length
 |_,_,.nil=>rfl
 |_,_,.cons _ r=>congrArg (· +1) r.length
theorem Reps.get:∀{xs:List V3} {ys:List V} {i:Nat} {x:V3},Reps κ β O H xs ys->xs[i]? =some x->∃y,ys[i]? =some y/\Rep κ β O H x y
 |_,_,_,_,.nil,e=>by simp at e
 |_,_,0,_,.cons r _,e=>by simp at e;subst e;exact⟨_,rfl,r⟩
 |_,_,i+1,x,.cons _ t,e=>by
  obtain⟨u,h1,h2⟩:=Reps.get (i:=i) (x:=x) t (by simpa using e)
  exact⟨u,by simpa using h1,h2⟩
theorem Reps.get':∀{xs:List V3} {ys:List V} {i:Nat} {y:V},Reps κ β O H xs ys->ys[i]? =some y->∃x,xs[i]? =some x/\Rep κ β O H x y
 |_,_,_,_,.nil,e=>by simp at e
 |_,_,0,_,.cons r _,e=>by simp at e;subst e;exact⟨_,rfl,r⟩
 |_,_,i+1,x,.cons _ t,e=>by
  obtain⟨u,h1,h2⟩:=Reps.get' (i:=i) (y:=x) t (by simpa using e)
  exact⟨u,by simpa using h1,h2⟩
theorem Reps.append:∀{xs:List V3} {ys:List V} {xs':List V3} {ys':List V},Reps κ β O H xs ys->Reps κ β O H xs' ys'->Reps κ β O H (xs++xs') (ys++ys')
 |_,_,_,_,.nil,s=>s
 |_,_,_,_,.cons r t,s=>.cons r (Reps.append t s)
theorem Reps.set {x:V3} {u:V} (r:Rep κ β O H x u):∀{xs:List V3} {us:List V} (i:Nat),Reps κ β O H xs us->Reps κ β O H (xs.set i x) (us.set i u)
 |_,_,_,.nil=>.nil
 |_,_,0,.cons _ t=>.cons r t
 |_,_,i+1,.cons q t=>.cons q (Reps.set r i t)
theorem Reps.take:∀{xs:List V3} {us:List V} (n:Nat),Reps κ β O H xs us->Reps κ β O H (xs.take n) (us.take n)
 |_,_,0,_=>.nil
 |_,_,_+1,.nil=>.nil
 |_,_,n+1,.cons r t=>.cons r (Reps.take n t)
theorem Reps.drop:∀{xs:List V3} {us:List V} (n:Nat),Reps κ β O H xs us->Reps κ β O H (xs.drop n) (us.drop n)
 |_,_,0,r=>r
 |_,_,_+1,.nil=>.nil
 |_,_,n+1,.cons _ t=>Reps.drop n t
theorem Reps.rep {xs:List V3} {us:List V} (h:Reps κ β O H xs us):∀k:Nat,Reps κ β O H (List.replicate k xs).flatten (List.replicate k us).flatten
 |0=>.nil
 |k+1=>by
  rw[Cg,Cg,Cp,Cp];exact h.append (Reps.rep h k)
end
def CellR (κ:Kx) (β:AO) (O:Addr->Prop) (H:Hp):C3->Addr->Prop
 |.lst xs,a=> ∃ys,H a=some (.lst ys)/\Reps κ β O H xs ys
 |.dK kvs,a=> ∃ws,H a=some (.dK ws)/\RepP κ β O H kvs ws
 |.dT kvs,a=> ∃ws,H a=some (.dT ws)/\RepP κ β O H kvs ws
 |.ins c fs,a=> ∃C dx gs,κ.cl c=some C/\H a=some (.ins C dx gs)/\RepP κ β O H fs gs
 |.dead,_=>False
structure RelH (κ:Kx) (O:Addr->Prop) (β:AO) (h:H3) (H:Hp):Prop where
 len:β.length=h.length
 inj:∀(i j:Nat) a,β[i]? =some (some a)->β[j]? =some (some a)->i=j
 off:∀a,O a->some a∉β
 trk:∀a,O a->∃o,H a=some o/\∀ys,o≠HO.tup ys
 btr:∀(i:Nat) a,β[i]? =some (some a)->∃o,H a=some o/\∀ys,o≠HO.tup ys
 cell:∀(i:Nat) c,h[i]? =some c->c=.dead\/∃a,β[i]? =some (some a)/\CellR κ β O H c a
structure Fr where
 Oi:Addr->Prop
 T:List Addr
 β:AO
 l:AO
 s:S3
 h:H3
def Fr.O (F:Fr):Addr->Prop:=fun a=>a∈F.T\/some a∈F.l\/F.Oi a
def SlotR (κ:Kx) (F:Fr) (H:Hp) (i:Nat):Vl->V->Prop
 |.v x,v=>Rep κ F.β F.O H x v
 |.m c,v=> ∃a,F.l[i]? =some (some a)/\v=.ref a/\CellR κ F.β F.O H c a
structure Rel (κ:Kx) (F:Fr) (σ:St) (H:Hp):Prop where
 heap:RelH κ F.O F.β F.h H
 slen:F.s.length=σ.length
 llen:F.l.length=F.s.length
 linj:∀(i j:Nat) a,F.l[i]? =some (some a)->F.l[j]? =some (some a)->i=j
 lt:∀a,some a∈F.l->a∉F.T
 lo:∀a,some a∈F.l->¬F.Oi a
 to:∀a∈F.T,¬F.Oi a
 tn:F.T.Nodup
 slot:∀(i:Nat) x,F.s[i]? =some (some x)->∃v,σ[i]? =some (some v)/\SlotR κ F H i x v
section
variable {κ:Kx} {β β':AO} {O O':Addr->Prop} {H H':Hp} {M:Addr->Prop} {c:C3} {a:Addr} {h:H3}
theorem CellR.sub (hs:∀a,O' a->O a) (r:CellR κ β O H c a):CellR κ β O' H c a:=by
 cases c with
 |lst xs=>obtain⟨_,q,r⟩:=r;exact⟨_,q,r.sub hs⟩
 |dK xs=>obtain⟨_,q,r⟩:=r;exact⟨_,q,r.sub hs⟩
 |dT xs=>obtain⟨_,q,r⟩:=r;exact⟨_,q,r.sub hs⟩
 |ins c fs=>obtain⟨_,_,_,k,q,r⟩:=r;exact⟨_,_,_,k,q,r.sub hs⟩
 |dead=>exact r
theorem CellR.ext (e:Ext M β H β' H') (hM:∀a,M a->O a) (hO:∀a o,H a=some o->¬O a->¬O' a) (hb:∀o,H a=some o->H' a=some o) (r:CellR κ β O H c a):CellR κ β' O' H' c a:=by
 cases c with
 |lst xs=>obtain⟨_,q,r⟩:=r;exact⟨_,hb _ q,r.ext e hM hO⟩
 |dK xs=>obtain⟨_,q,r⟩:=r;exact⟨_,hb _ q,r.ext e hM hO⟩
 |dT xs=>obtain⟨_,q,r⟩:=r;exact⟨_,hb _ q,r.ext e hM hO⟩
 |ins c fs=>obtain⟨_,_,_,k,q,r⟩:=r;exact⟨_,_,_,k,hb _ q,r.ext e hM hO⟩
 |dead=>exact r
theorem CellR.fz {x:V3} (hc:c.fz=some x) (hn:some a∉β) (ho: ¬O a) (r:CellR κ β O H c a):Rep κ β O H x (.ref a):=by
 cases c with
 |lst xs=>cases hc;obtain⟨_,q,r⟩:=r;exact .lst q hn ho r
 |dK xs=>cases hc;obtain⟨_,q,r⟩:=r;exact .dK q hn ho r
 |dT xs=>cases hc;obtain⟨_,q,r⟩:=r;exact .dT q hn ho r
 |ins c fs=>cases hc;obtain⟨_,_,_,k,q,r⟩:=r;exact .obj k q hn ho r
 |dead=>exact r.elim
theorem RelH.sub (hs:∀a,O' a->O a) (r:RelH κ O β h H):RelH κ O' β h H:=
 ⟨r.len,r.inj,fun a ha=>r.off a (hs a ha),fun a ha=>r.trk a (hs a ha),r.btr,fun i c hc=>(r.cell i c hc).imp id fun ⟨a,ha,q⟩=>⟨a,ha,q.sub hs⟩⟩
end
abbrev Fr.with (F:Fr) (p:Addr):Fr:={F with T:=p::F.T}
abbrev Fr.to (F:Fr) (β:AO) (h:H3):Fr:={F with β:=β,h:=h}
abbrev Nw (H:Hp):Addr->Prop:=fun p=>H p=none
def Post (κ:Kx) (N:Addr->Prop) (F:Fr) (σ:St) (H:Hp):Vl->V->Prop
 |.v x,v=>Rel κ F σ H/\Rep κ F.β F.O H x v
 |.m c,v=> ∃p,v=.ref p/\Rel κ (F.with p) σ H/\CellR κ F.β (F.with p).O H c p/\N p
def XOk (κ:Kx) (E:XK) (x:X3) (H:Hp):Prop:=∀C,κ.cl x.c=some C->E (.ref C) none H
abbrev Kd (α ω:Type):=Hp->Fr->St->Hp->α->ω->Prop
def BI {α ω:Type} (K:Kd α ω):Prop:=∀(M:Addr->Prop) β H β1 H1 F σ H' a w,Ext M β H β1 H1->K H1 F σ H' a w->K H F σ H' a w
def Out {α ω:Type} (κ:Kx) (E:XK) (K:Kd α ω) (F:Fr) (σ:St) (H:Hp) (Q:ω->Hp->Prop):Res α->Prop
 |.ok a h'=> ∀β' w H',Ext No F.β H β' H'->K H (F.to β' h') σ H' a w->Q w H'
 |.ex x h'=> ∀β' H',Ext No F.β H β' H'->RelH κ F.Oi β' h' H'->XOk κ E x H'
 |.no=>False
def tOf {α ω:Type} (κ:Kx) (E:XK) (K:Kd α ω) (d:S3->H3->Res α) (σ:St) (H:Hp) (Q:ω->Hp->Prop):Prop:=∃F,Rel κ F σ H/\Out κ E K F σ H Q (d F.s F.h)
def kE (κ:Kx):Kd Vl V:=fun H F σ H' r v=>Post κ (Nw H) F σ H' r v
abbrev zh (κ:Kx) (E:XK) (d:E3):TE:=tOf κ E (kE κ) d
section
variable {κ:Kx} {E:XK} {F:Fr} {σ:St} {H H':Hp} {Q:VK} {p:Addr}
def Fr.O_with {a:Addr} (h:F.O a):(F.with p).O a:=h.imp (fun z=>Av _ z) id
theorem SlotR.sub {F F':Fr} {i:Nat} {x:Vl} {v:V} (hb:F'.β=F.β) (hl:F'.l=F.l) (hs:∀a,F'.O a->F.O a) (h:SlotR κ F H i x v):SlotR κ F' H i x v:=by
 cases x with
 |v x=>show Rep κ F'.β F'.O H x v;rw[hb];exact Rep.sub hs h
 |m c=>obtain⟨a,h1,h2,h3⟩:=h;refine⟨a,by rw[hl];exact h1,h2,?_⟩;rw[hb];exact h3.sub hs
def Rel.drop (h:Rel κ (F.with p) σ H):Rel κ F σ H where
 heap:=h.heap.sub fun a ha=>Fr.O_with ha
 slen:=h.slen
 llen:=h.llen
 linj:=h.linj
 lt:=fun a ha z=>h.lt a ha (Av _ z)
 lo:=h.lo
 to:=fun a ha=>h.to a (Av _ ha)
 tn:=(Bn.mp h.tn).2
 slot:=fun i x e=>let ⟨v,a,b⟩:=h.slot i x e;⟨v,a,SlotR.sub (F:=F.with p) (F':=F) rfl rfl (fun a ha=>Fr.O_with ha) b⟩
def Rel.apart (h:Rel κ (F.with p) σ H): ¬F.O p:=fun z=>by
 rcases z with z|z|z
 .exact (Bn.mp h.tn).1 z
 .exact h.lt p z An
 .exact h.to p An z
def Rel.offp (h:Rel κ (F.with p) σ H):some p∉F.β:=h.heap.off p (.inl An)
theorem Post.fz {N:Addr->Prop} {x:Vl} {y:V3} {v:V} (h:Post κ N F σ H x v) (e:x.fz=some y):Rel κ F σ H/\Rep κ F.β F.O H y v:=by
 cases x with
 |v x=>cases e;exact h
 |m c=>
  obtain⟨p,rfl,r,q,_⟩:=h;exact⟨r.drop,(q.sub (O':=F.O) fun a ha=>Fr.O_with ha).fz e r.offp r.apart⟩
def Post.imp {N N':Addr->Prop} {x:Vl} {v:V} (h:Post κ N F σ H x v) (k:∀p,N p->N' p):Post κ N' F σ H x v:=by
 cases x with
 |v x=>exact h
 |m c=>obtain⟨p,h1,h2,h3,h4⟩:=h;exact⟨p,h1,h2,h3,k p h4⟩
def Ext.nw {M:Addr->Prop} {β β':AO} {H0 H1:Hp} (e:Ext M β H0 β' H1):∀p,Nw H1 p->Nw H0 p:=fun p h=>by
 cases w:H0 p with
 |none=>exact w
 |some o=>obtain⟨o',z⟩:=e.there p o w;rw[h]at z;cases z
def Rel.slotExt {β':AO} {h':H3} (r:Rel κ F σ H) (e:Ext No F.β H β' H') {i:Nat} {x:Vl} {v:V} (q:SlotR κ F H i x v):SlotR κ (F.to β' h') H' i x v:=by
 cases x with
 |v x=>exact Rep.ext0 e q
 |m c=>
  obtain⟨a,h1,h2,h3⟩:=q;have ha:F.O a:= .inr (.inl (Al h1));exact⟨a,h1,h2,h3.ext e (fun _ z=>z.elim) (fun _ _ _ n=>n) fun o ho=>(e.keep a o ho (r.heap.off a ha) fun z=>z).1⟩
def Rel.next {β':AO} {h':H3} (r:Rel κ F σ H) (e:Ext No F.β H β' H') (rh:RelH κ F.O β' h' H'):Rel κ (F.to β' h') σ H' where
 heap:=rh
 slen:=r.slen
 llen:=r.llen
 linj:=r.linj
 lt:=r.lt
 lo:=r.lo
 to:=r.to
 tn:=r.tn
 slot:=fun i x hx=>let ⟨v,a,b⟩:=r.slot i x hx;⟨v,a,r.slotExt e b⟩
def Out.move {α ω:Type} {K:Kd α ω} {Q:ω->Hp->Prop} {r:Res α} {β':AO} {h':H3} (hK:BI K) (e:Ext No F.β H β' H') (o:Out κ E K F σ H Q r):Out κ E K (F.to β' h') σ H' Q r:=by
 cases r with
 |ok x h2=>exact fun β2 v H2 e2 p=>o β2 v H2 (e.trans0 e2) (hK _ _ _ _ _ _ _ _ _ _ e p)
 |ex x h2=>exact fun β2 H2 e2 p=>o β2 H2 (e.trans0 e2) p
 |no=>exact o
def zH:BI (kE κ):=fun M β H β1 H1 F σ H' a w e h=>Post.imp h e.nw
def tOf.mono {α ω:Type} {K:Kd α ω} {Q Q':ω->Hp->Prop} {d:S3->H3->Res α} (h:tOf κ E K d σ H Q) (k:∀v H,Q v H->Q' v H):tOf κ E K d σ H Q':=by
 obtain⟨F,rel,o⟩:=h
 refine⟨F,rel,?_⟩
 cases q:d F.s F.h with
 |ok r h1=>rw[q]at o;exact fun β v H' e p=>k _ _ (o β v H' e p)
 |ex x h1=>rw[q]at o;exact o
 |no=>rw[q]at o;exact o
def yh {α ω α' ω':Type} {K:Kd α ω} {K':Kd α' ω'} {Q:ω'->Hp->Prop} {a:S3->H3->Res α} {k:α->H3->Res α'} (hK:BI K') (rel:Rel κ F σ H) (h:Out κ E K' F σ H Q ((a F.s F.h).bind k)):
  tOf κ E K a σ H (fun w H1=> ∃β1 h1 x,Ext No F.β H β1 H1/\K H (F.to β1 h1) σ H1 x w/\Out κ E K' (F.to β1 h1) σ H1 Q (k x h1)):=by
 refine⟨F,rel,?_⟩
 cases q:a F.s F.h with
 |no=>rw[q]at h;exact h
 |ex x h1=>rw[q]at h;exact h
 |ok r h1=>rw[q]at h;exact fun β1 v H1 e p=>⟨β1,h1,r,e,p,Out.move hK e h⟩
def yN {β:AO} {o:HO} (hp:H p=none):Ext No β H β (zl H p o):=
 ⟨fun a u ha hn _=>⟨by rw[zI (yR ha hp)];exact ha,hn⟩,Af _,fun _ _ _ h=>h,fun a u ha=>⟨u,by rw[zI (yR ha hp)];exact ha⟩,nwb0⟩
def RelH.trk' {O:Addr->Prop} {β:AO} {h:H3} (r:RelH κ O β h H) (a:Addr) (ha:O a):∃o,H a=some o:=let ⟨u,q,_⟩:=r.trk a ha;⟨u,q⟩
def RelH.btr' {O:Addr->Prop} {β:AO} {h:H3} (r:RelH κ O β h H) (i:Nat) (a:Addr) (e:β[i]? =some (some a)):∃o,H a=some o:=let ⟨u,q,_⟩:=r.btr i a e;⟨u,q⟩
def CellR.nt {β:AO} {O:Addr->Prop} {c:C3} {u:HO} {l:Addr} (h:CellR κ β O (zl H l u) c l):∀ys,u≠HO.tup ys:=by
 intro ys z;subst z;cases c with
 |lst xs=>obtain⟨_,e,_⟩:=h;rw[yQ]at e;cases e
 |dK xs=>obtain⟨_,e,_⟩:=h;rw[yQ]at e;cases e
 |dT xs=>obtain⟨_,e,_⟩:=h;rw[yQ]at e;cases e
 |ins c fs=>obtain⟨_,_,_,_,e,_⟩:=h;rw[yQ]at e;cases e
 |dead=>exact h
def RelH.off_new {O:Addr->Prop} {β:AO} {h:H3} (r:RelH κ O β h H) (hp:H p=none):some p∉β/\¬O p:=by
 refine⟨fun z=>?_,fun z=>?_⟩
 .obtain⟨i,hi⟩:=C6 z
  obtain⟨o,ho,_⟩:=r.btr i p hi;rw[hp]at ho;cases ho
 .obtain⟨o,ho,_⟩:=r.trk p z
  rw[hp]at ho;cases ho
def RelH.laid {O:Addr->Prop} {β:AO} {h:H3} {o:HO} (r:RelH κ O β h H) (hp:H p=none):RelH κ O β h (zl H p o):=by
 have k:∀a u,H a=some u->zl H p o a=some u:=fun a u ha=>by rw[zI (yR ha hp)];exact ha
 exact⟨r.len,r.inj,r.off,fun a ha=>let ⟨u,q,n⟩:=r.trk a ha;⟨u,k a u q,n⟩,fun i a e=>let ⟨u,q,n⟩:=r.btr i a e;⟨u,k a u q,n⟩,
  fun i c hc=>(r.cell i c hc).imp id fun ⟨a,ha,q⟩=>⟨a,ha,q.ext (yN hp) (fun _ z=>z.elim) (fun _ _ _ n=>n) fun u hu=>k a u hu⟩⟩
theorem Rel.laid {o:HO} (r:Rel κ F σ H) (hp:H p=none):Rel κ F σ (zl H p o):=r.next (yN hp) (r.heap.laid hp)
def O_ne {a:Addr} (h:(F.with p).O a) (hne:a≠p):F.O a:=by
 rcases h with h|h
 .rcases Ae.mp h with h|h
  .exact absurd h hne
  .exact .inl h
 .exact .inr h
def Rel.new {o:HO} (r:Rel κ F σ H) (hp:H p=none) (ho:∀ys,o≠HO.tup ys:=by intro _ z;cases z):Rel κ (F.with p) σ (zl H p o)/\∀{x:V3} {y:V},Rep κ F.β F.O H x y->Rep κ F.β (F.with p).O (zl H p o) x y:=by
 obtain⟨n1,n2⟩:=r.heap.off_new hp;have e:Ext No F.β H F.β (zl H p o):=yN hp;have hM:∀a,No a->F.O a:=fun _ z=>z.elim
 have hO:∀a u,H a=some u->¬F.O a->¬(F.with p).O a:=fun a u ha n z=>n (O_ne z (yR ha hp))
 have k:∀a u,H a=some u->zl H p o a=some u:=fun a u ha=>by rw[zI (yR ha hp)];exact ha
 refine⟨⟨⟨r.heap.len,r.heap.inj,fun a ha=>?_,fun a ha=>?_,fun i a q=>let ⟨u,z,n⟩:=r.heap.btr i a q;⟨u,k a u z,n⟩,fun i c hc=>(r.heap.cell i c hc).imp id fun ⟨a,ha,q⟩=>⟨a,ha,q.ext e hM hO fun u hu=>k a u hu⟩⟩,
  r.slen,r.llen,r.linj,?_,r.lo,?_,Bn.mpr ⟨fun z=>n2 (.inl z),r.tn⟩,fun i x q=>?_⟩,fun h=>h.ext e hM hO⟩
 .by_cases z:a=p
  .subst z;exact n1
  .exact r.heap.off a (O_ne ha z)
 .by_cases z:a=p
  .subst z;exact⟨o,yQ,ho⟩
  .obtain⟨u,q,n⟩:=r.heap.trk a (O_ne ha z);exact⟨u,k a u q,n⟩
 .intro a ha z
  rcases Ae.mp z with z|z
  .subst z;exact n2 (.inr (.inl ha))
  .exact r.lt a ha z
 .intro a ha z
  rcases Ae.mp ha with h|h
  .subst h;exact n2 (.inr (.inr z))
  .exact r.to a h z
 .obtain⟨v,h1,h2⟩:=r.slot i x q
  refine⟨v,h1,?_⟩
  cases x with
  |v x=>exact Rep.ext e hM hO h2
  |m c=>
   obtain⟨a,a1,a2,a3⟩:=h2;exact⟨a,a1,a2,a3.ext e hM hO fun u hu=>k a u hu⟩
def Out.val {x:V3} {v:V} (o:Out κ E (kE κ) F σ H Q (.ok (.v x) F.h)) (rel:Rel κ F σ H) (r:Rep κ F.β F.O H x v):Q v H:=o F.β v H Ext.refl ⟨rel,r⟩
inductive Rf where
 |x (v:V3)|s (i:Nat)
abbrev P3:=S3->H3->Res Rf
def pV (i:Nat):P3:=fun s h=>match s[i]? with
 |some (some (.v x))=>.ok (.x x) h
 |some (some (.m _))=>.ok (.s i) h
 |_=>.no
def pE (e:E3):P3:=fun s h=>(e s h).bind fun r h1=>match r.fz with
 |some x=>.ok (.x x) h1
 |none=>.no
def RfR (κ:Kx) (F:Fr) (H:Hp):Rf->V->Prop
 |.x y,v=>Rep κ F.β F.O H y v
 |.s i,v=> ∃a c,F.l[i]? =some (some a)/\v=.ref a/\F.s[i]? =some (some (.m c))/\CellR κ F.β F.O H c a
def kP (κ:Kx):Kd Rf V:=fun _ F σ H' f v=>Rel κ F σ H'/\RfR κ F H' f v
abbrev zq (κ:Kx) (E:XK) (d:P3):TE:=tOf κ E (kP κ) d
def km_P:BI (kP κ):=fun _ _ _ _ _ _ _ _ _ _ _ h=>h
theorem RfR.ext {β':AO} {h':H3} {f:Rf} {v:V} (rel:Rel κ F σ H) (e:Ext No F.β H β' H') (r:RfR κ F H f v):RfR κ (F.to β' h') H' f v:=by
 cases f with
 |x y=>exact Rep.ext0 e r
 |s i=>
  obtain⟨a,c,h1,h2,h3,h4⟩:=r;have ha:F.O a:= .inr (.inl (Al h1));exact⟨a,c,h1,h2,h3,h4.ext e (fun _ z=>z.elim) (fun _ _ _ n=>n) fun o ho=>(e.keep a o ho (rel.heap.off a ha) fun z=>z).1⟩
def rdl (s:S3) (h:H3):Rf->Option (List V3)
 |.x (.lst xs)=>some xs
 |.x (.scr ns)=>some (ns.map .int)
 |.x (.loc n)=>match h[n]? with
  |some (.lst xs)=>some xs
  |_=>none
 |.s i=>match s[i]? with
  |some (some (.m (.lst xs)))=>some xs
  |_=>none
 |_=>none
def CK {f:Rf} {v:V} {xs:List V3} (rel:Rel κ F σ H) (r:RfR κ F H f v) (e:rdl F.s F.h f=some xs):∃a ys,v=.ref a/\SqL κ.K H a ys/\Reps κ F.β F.O H xs ys:=by
 cases f with
 |s i=>
  obtain⟨a,c,h1,h2,h3,h4⟩:=r;simp only[rdl,h3]at e;cases c<;>simp at e
  subst e;obtain⟨ys,h5,h6⟩:=h4;exact⟨a,ys,h2,.of h5,h6⟩
 |x y=>
  cases y<;>simp[rdl]at e
  case lst zs=>
   subst e;cases r with
   |lst h1 h2 h3 h4=>exact⟨_,_,rfl,.of h1,h4⟩
  case scr ns=>
   subst e;have g:∀l:List Int,Reps κ F.β F.O H (l.map V3.int) (l.map V.int):=fun l=>by
    induction l with
    |nil=>exact .nil
    |cons x r ih=>exact .cons (.int x) ih
   cases r with
   |scr h1 h2 h3=>exact⟨_,_,rfl,.inl (.inr ⟨_,h1⟩),g ns⟩
   |scrK h=>exact⟨_,_,rfl,.inr h,g ns⟩
  case loc n=>
   cases r with
   |loc h1 h2=>
    cases q:F.h[n]? with
    |none=>rw[q]at e;cases e
    |some c=>
     rw[q]at e;cases c<;>simp at e
     subst e
     rcases rel.heap.cell n _ q with z|⟨a,ha,ys,h5,h6⟩
     .cases z
     .exact⟨a,ys,h2 a ha,.of h5,h6⟩
end
abbrev A3:=S3->H3->Res (List Rf)
def aNil:A3:=fun _ h=>.ok [] h
def aCons (p:P3) (a:A3):A3:=fun s h=>(p s h).bind fun f h1=>(a s h1).bind fun fs h2=>.ok (f::fs) h2
def kA (κ:Kx):Kd (List Rf) (List V):=fun _ F σ H' fs vs=>Rel κ F σ H'/\Paired (RfR κ F H') fs vs
abbrev zN (κ:Kx) (E:XK) (d:A3):TA:=tOf κ E (kA κ) d
def vals3:List Rf->Option (List V3)
 | []=>some []
 |.x v::r=>(vals3 r).map (v:: ·)
 |.s _::_=>none
abbrev T3:=S3->H3->Res Bool
def kT (κ:Kx):Kd Bool Bool:=fun _ F σ H' b b'=>b'=b/\Rel κ F σ H'
abbrev zO (κ:Kx) (E:XK) (d:T3):TT:=tOf κ E (kT κ) d
section
variable {X:Cx} {κ:Kx} {E:XK} {F:Fr} {σ:St} {H H':Hp} {Q:VK} {p:Addr} {e a b:Expr} {pos:Pos} {i:Nat}
def km_A:BI (kA κ):=fun _ _ _ _ _ _ _ _ _ _ _ h=>h
def km_T:BI (kT κ):=fun _ _ _ _ _ _ _ _ _ _ _ h=>h
def yL {t t':TE} (h:PE X e t) (w:∀σ H Q,t' σ H Q->t σ H Q):PE X e t':=fun pins s σ H Q I q=>h pins s σ H Q I (w σ H Q q)
def PTw {t t':TT} (h:PT X e t) (w:∀σ H Q,t' σ H Q->t σ H Q):PT X e t':=fun pins s σ H Q I q=>h pins s σ H Q I (w σ H Q q)
def PWw {t t':TT} (h:PW X e t) (w:∀σ H Q,t' σ H Q->t σ H Q):PW X e t':=fun wh pins s σ H Q I q=>h wh pins s σ H Q I (w σ H Q q)
def PAw {es:List Expr} {t t':TA} (h:PA X es t) (w:∀σ H Q,t' σ H Q->t σ H Q):PA X es t':=fun pos pins s σ H Q I q=>h pos pins s σ H Q I (w σ H Q q)
def eV (i:Nat):E3:=fun s h=>match s[i]? with
 |some (some (.v x))=>.ok (.v x) h
 |_=>.no
def eC (x:V3):E3:=fun _ h=>.ok (.v x) h
abbrev kJ (n:Int):P3:=pE (eC (.int n))
def r_v (hv:PE X e (tVar i)):PE X e (zh κ E (eV i)):=yL hv fun σ H Q ⟨F,rel,o⟩=>by
 unfold eV at o;cases q:F.s[i]? with
 |none=>rw[q]at o;exact o.elim
 |some z=>
  rw[q]at o
  match z,q,o with
  |none,q,o=>exact o.elim
  |some (.m c),q,o=>exact o.elim
  |some (.v x),q,o=>
   obtain⟨v,h1,h2⟩:=rel.slot i _ q;exact⟨v,h1,o.val rel h2⟩
def rp_v (hv:PE X e (tVar i)):PE X e (zq κ E (pV i)):=yL hv fun σ H Q ⟨F,rel,o⟩=>by
 unfold pV at o;cases q:F.s[i]? with
 |none=>rw[q]at o;exact o.elim
 |some z=>
  rw[q]at o
  match z,q,o with
  |none,q,o=>exact o.elim
  |some (.m c),q,o=>
   obtain⟨v,h1,a,h2,h3,h4⟩:=rel.slot i _ q;exact⟨v,h1,o F.β v H Ext.refl ⟨rel,a,c,h2,h3,q,h4⟩⟩
  |some (.v x),q,o=>
   obtain⟨v,h1,h2⟩:=rel.slot i _ q;exact⟨v,h1,o F.β v H Ext.refl ⟨rel,h2⟩⟩
def za {d:E3} (h:PE X e (zh κ E d)):PE X e (zq κ E (pE d)):=yL h fun σ H Q ⟨F,rel,o⟩=>
 (yh (K:=kE κ) km_P rel o).mono fun v H1 ⟨β1,h1,x,e1,p1,o1⟩=>by
  cases z:x.fz with
  |none=>simp only[z]at o1;exact o1.elim
  |some y=>
   simp only[z]at o1;obtain⟨r1,r2⟩:=Post.fz p1 z;exact o1 β1 v H1 Ext.refl ⟨r1,r2⟩
def qu {x:V3} {v:V} (hc:PE X e (tC v)) (r:∀β O H,Rep κ β O H x v):PE X e (zh κ E (eC x)):=yL hc fun σ H Q ⟨F,rel,o⟩=>o.val rel (r _ _ _)
def N0 {i j pos}:PE X (.Constant (.int i) j pos) (zh κ E (eC (.int i))):=qu Lg fun _ _ _=>.int i
def yw {b j pos}:PE X (.Constant (.bool b) j pos) (zh κ E (eC (.bl b))):=qu Lh fun _ _ _=>.bl b
def js {j pos}:PE X (.Constant .none j pos) (zh κ E (eC .non)):=qu Li fun _ _ _=>.non
def zy {x j pos}:PE X (.Constant (.str x) j pos) (zh κ E (eC (.str x))):=qu Lj fun _ _ _=>.str x
def zg:PA X [] (zN κ E aNil):=PAw LZ fun σ H Q ⟨F,rel,o⟩=>o F.β [] H Ext.refl ⟨rel,.nil⟩
def ze {es:List Expr} {d:P3} {t:A3} (ha:PE X e (zq κ E d)) (hr:PA X es (zN κ E t)) (hs:SE X e es:=by rfl):PA X (e::es) (zN κ E (aCons d t)):=
 PAw (Ma ha hr hs) fun σ H Q ⟨F,rel,o⟩=>
  (yh (K:=kP κ) km_A rel o).mono fun v H1 ⟨β1,h1,x,e1,⟨r1,rf1⟩,o1⟩=>
   (yh (F:=F.to β1 h1) (K:=kA κ) km_A r1 o1).mono fun vs H2 ⟨β2,h2,fs,e2,⟨r2,rf2⟩,o2⟩=>o2 β2 (v::vs) H2 Ext.refl ⟨r2,.cons (RfR.ext (F:=F.to β1 h1) (β':=β2) (h':=h2) r1 e2 rf1) rf2⟩
theorem DT:∀{fs:List Rf} {vs:List V} {xs:List V3},Paired (RfR κ F H) fs vs->vals3 fs=some xs->Reps κ F.β F.O H xs vs
 |_,_,_,.nil,e=>by cases e;exact .nil
 |f::fs,v::vs,xs,.cons q t,e=>by
  cases f with
  |s i=>cases e
  |x y=>
   unfold vals3 at e;cases z:vals3 fs with
   |none=>rw[z]at e;cases e
   |some l=>rw[z]at e;cases e;exact .cons q (DT t z)
abbrev F2:=S3->H3->Rf->Rf->Option Vl
def opt (h:H3):Option Vl->Res Vl
 |some z=>.ok z h
 |none=>.no
def eOp (f:F2) (a b:P3):E3:=fun s h=>(a s h).bind fun x h1=>(b s h1).bind fun y h2=>opt h2 (f s h2 x y)
def OpSim (κ:Kx) (r:R2) (f:F2):Prop:=∀(F:Fr) (σ:St) (H:Hp) (x y:Rf) (z:Vl) (v w:V) (Q:VK),Rel κ F σ H->RfR κ F H x v->RfR κ F H y w->f F.s F.h x y=some z->
 (∀u H',Ext No F.β H F.β H'->Post κ (Nw H) F σ H' z u->Q u H')->r v w H Q
theorem Out.opt {o:Option Vl} {h:H3} (h0:F.h=h) (q:Out κ E (kE κ) F σ H Q (opt h o)):∃z,o=some z/\∀u H',Ext No F.β H F.β H'->Post κ (Nw H) F σ H' z u->Q u H':=by
 cases o with
 |none=>exact q.elim
 |some z=>subst h0;exact⟨z,rfl,fun u H' e p=>q F.β u H' e p⟩
def FO {r:R2} {f:F2} {a b:P3} (hs:OpSim κ r f) (h:zh κ E (eOp f a b) σ H Q):tOp r (zq κ E a) (zq κ E b) σ H Q:=by
 obtain⟨F,rel,o⟩:=h
 refine (yh (K:=kP κ) zH rel o).mono fun v H1 ⟨β1,h1,f1,e1,⟨r1,rf1⟩,o1⟩=>?_
 refine (yh (F:=F.to β1 h1) (K:=kP κ) zH r1 o1).mono fun w H2 ⟨β2,h2,f2,e2,⟨r2,rf2⟩,o2⟩=>?_
 obtain⟨z,q,k⟩:=Out.opt (F:=F.to β2 h2) rfl o2;exact hs (F.to β2 h2) σ H2 f1 f2 z v w Q r2 (RfR.ext (F:=F.to β1 h1) (β':=β2) (h':=h2) r1 e2 rf1) rf2 q k
def zm {op:Operator} {r:R2} {f:F2} {da db:P3} (hs:OpSim κ r f) (ho:OpR X (binaryOp op) r) (ha:PE X a (zq κ E da)) (hb:PE X b (zq κ E db)):PE X (.BinOp a op b pos) (zh κ E (eOp f da db)):=yL (LJ ho ha hb) fun _ _ _ h=>FO hs h
def qY {op:CmpOp} {r:R2} {f:F2} {da db:P3} (hs:OpSim κ r f) (ho:OpR X (compareOp op) r) (hm:behindInMarks op b=false) (ha:PE X a (zq κ E da)) (hb:PE X b (zq κ E db)):PE X (.Compare a [op] [b] pos) (zh κ E (eOp f da db)):=yL (LN ho ha hb hm) fun _ _ _ h=>FO hs h
def r_ix {r:R2} {f:F2} {da db:P3} (hs:OpSim κ r f) (ho:IxR X r) (hm:FD b) (ha:PE X a (zq κ E da)) (hb:PE X b (zq κ E db)):PE X (.Subscript a b pos) (zh κ E (eOp f da db)):=yL (Mt ho ha hb hm) fun _ _ _ h=>FO hs h
abbrev FB:=S3->H3->List Rf->Option Vl
def eB (f:FB) (a:A3):E3:=fun s h=>(a s h).bind fun fs h1=>opt h1 (f s h1 fs)
def qD (κ:Kx) (r:List V->Hp->VK->Prop) (f:FB):Prop:=∀(F:Fr) (σ:St) (H:Hp) (fs:List Rf) (z:Vl) (vs:List V) (Q:VK),Rel κ F σ H->Paired (RfR κ F H) fs vs->f F.s F.h fs=some z->
 (∀u H',Ext No F.β H F.β H'->Post κ (Nw H) F σ H' z u->Q u H')->r vs H Q
def te_b {r:List V->Hp->VK->Prop} {f:FB} {a:A3} (hs:qD κ r f) (h:zh κ E (eB f a) σ H Q):tCB r (zN κ E a) σ H Q:=by
 obtain⟨F,rel,o⟩:=h
 refine (yh (K:=kA κ) zH rel o).mono fun vs H1 ⟨β1,h1,fs,e1,⟨r1,rf1⟩,o1⟩=>?_
 obtain⟨z,q,k⟩:=Out.opt (F:=F.to β1 h1) rfl o1;exact hs (F.to β1 h1) σ H1 fs z vs Q r1 rf1 q k
def N1 {a:Addr} {u:HO} (hp:H p=none) (ha:H a=some u) (n: ¬F.O a): ¬(F.with p).O a:=fun z=>n (O_ne z (yR ha hp))
theorem Post.lst {xs:List V3} {ys:List V} (rel:Rel κ F σ H) (hp:H p=none) (r:Reps κ F.β F.O H xs ys):Post κ (Nw H) F σ (zl H p (.lst ys)) (.m (.lst xs)) (.ref p):=by
 obtain⟨r1,r2⟩:=rel.new (o:= .lst ys) hp;exact⟨p,rfl,r1,⟨ys,yQ,r.ext (yN hp) (fun _ z=>z.elim) fun a u ha n=>N1 hp ha n⟩,hp⟩
theorem Post.tup {xs:List V3} {ys:List V} {N:Addr->Prop} (rel:Rel κ F σ H) (hp:H p=none) (r:Reps κ F.β F.O H xs ys):Post κ N F σ (zl H p (.tup ys)) (.v (.tup xs)) (.ref p):=by
 obtain⟨n1,n2⟩:=rel.heap.off_new hp;exact⟨rel.laid hp,.tup yQ n1 n2 (r.ext0 (yN hp))⟩
def eTup (a:A3):E3:=fun s h=>(a s h).bind fun fs h1=>match vals3 fs with
 |some xs=>if xs.length<=sizeLine then .ok (.v (.tup xs)) h1 else .no
 |none=>.no
def eLst (a:A3):E3:=fun s h=>(a s h).bind fun fs h1=>match vals3 fs with
 |some xs=>if xs.length<=sizeLine then .ok (.m (.lst xs)) h1 else .no
 |none=>.no
def FP {es:List Expr} {x1} {t:A3} (h:PA X es (zN κ E t)):PE X (.Tuple es x1 pos) (zh κ E (eTup t)):=yL (Mb h) fun σ H Q ⟨F,rel,o⟩=>
 (yh (K:=kA κ) zH rel o).mono fun vs H1 ⟨β1,h1,fs,e1,⟨r1,rf1⟩,o1⟩=>by
  cases q:vals3 fs with
  |none=>simp only[q]at o1;exact o1.elim
  |some xs=>
   simp only[q]at o1;have hr:=DT rf1 q
   by_cases hz:xs.length<=sizeLine
   .rw[Aa hz]at o1
    exact⟨by rw[<-hr.length];exact hz,fun p hp=>o1 β1 (.ref p) _ (yN hp) (Post.tup r1 hp hr)⟩
   .rw[Ab hz]at o1;exact o1.elim
def yF {es:List Expr} {t:A3} (h:PA X es (zN κ E t)):PE X (.List es pos) (zh κ E (eLst t)):=yL (Mc h) fun σ H Q ⟨F,rel,o⟩=>
 (yh (K:=kA κ) zH rel o).mono fun vs H1 ⟨β1,h1,fs,e1,⟨r1,rf1⟩,o1⟩=>by
  cases q:vals3 fs with
  |none=>simp only[q]at o1;exact o1.elim
  |some xs=>
   simp only[q]at o1;have hr:=DT rf1 q
   by_cases hz:xs.length<=sizeLine
   .rw[Aa hz]at o1
    exact⟨by rw[<-hr.length];exact hz,fun p hp=>o1 β1 (.ref p) _ (yN hp) (Post.lst r1 hp hr)⟩
   .rw[Ab hz]at o1;exact o1.elim
def tE (e:E3):T3:=fun s h=>(e s h).bind fun r h1=>match r with
 |.v (.bl b)=>.ok b h1
 |_=>.no
def DU {d:E3} {Q:Bool->Hp->Prop} (h:zO κ E (tE d) σ H Q):zh κ E d σ H (fun x H'=> ∃k,x=.bl k/\Q k H'):=by
 obtain⟨F,rel,o⟩:=h
 refine (yh (K:=kE κ) km_T rel o).mono fun v H1 ⟨β1,h1,x,e1,p1,o1⟩=>?_
 match x,p1,o1 with
 |.v (.bl b),p1,o1=>
  obtain⟨r1,r2⟩:=p1;cases r2;exact⟨b,rfl,o1 β1 b H1 Ext.refl ⟨rfl,r1⟩⟩
def zX {op:CmpOp} {r:R2} {f:F2} {da db:P3} (hs:OpSim κ r f) (ho:OpR X (compareOp op) r) (hm:behindInMarks op b=false) (ha:PE X a (zq κ E da)) (hb:PE X b (zq κ E db)):PT X (.Compare a [op] [b] pos) (zO κ E (tE (eOp f da db))):=PTw (LO ho ha hb hm) fun _ _ _ h=>FO hs (DU h)
def qN {d:E3} (h:PE X e (zh κ E d)) (he:∀whole,isTrue e X.env whole=(do let v <-whole;standAt e.pos;holding [v] (truthy v)):=by intro _;rfl):PT X e (zO κ E (tE d)):=PTw (Ll h he) fun _ _ _ q=>DU q
def tAnd3 (a b:T3):T3:=fun s h=>(a s h).bind fun c h1=>if c=true then b s h1 else .ok false h1
def tOr3 (a b:T3):T3:=fun s h=>(a s h).bind fun c h1=>if c=true then .ok true h1 else b s h1
def tNot3 (a:T3):T3:=fun s h=>(a s h).bind fun c h1=>.ok (!c) h1
def DV {t:T3} (ha:PT X a (zO κ E t)):PW X (.BoolOp .And [a] pos) (zO κ E t):=Lm ha
def BJ {t:T3} (ha:PT X a (zO κ E t)):PW X (.BoolOp .Or [a] pos) (zO κ E t):=Ln ha
def CL {t u:T3} {rest:List Expr} (ha:PT X a (zO κ E t)) (hb:PW X (.BoolOp .And (b::rest) pos) (zO κ E u)):PW X (.BoolOp .And (a::b::rest) pos) (zO κ E (tAnd3 t u)):=PWw (Lo ha hb) fun σ H Q ⟨F,rel,o⟩=>
 (yh (K:=kT κ) km_T rel o).mono fun c H1 ⟨β1,h1,x,e1,⟨ec,r1⟩,o1⟩=>by
  subst ec;cases c with
  |true=>rw[Aa rfl]at o1 ⊢;exact⟨F.to β1 h1,r1,o1⟩
  |false=>rw[Ab Ao]at o1 ⊢;exact o1 β1 false H1 Ext.refl ⟨rfl,r1⟩
def AQ {t u:T3} {rest:List Expr} (ha:PT X a (zO κ E t)) (hb:PW X (.BoolOp .Or (b::rest) pos) (zO κ E u)):PW X (.BoolOp .Or (a::b::rest) pos) (zO κ E (tOr3 t u)):=PWw (Lp ha hb) fun σ H Q ⟨F,rel,o⟩=>
 (yh (K:=kT κ) km_T rel o).mono fun c H1 ⟨β1,h1,x,e1,⟨ec,r1⟩,o1⟩=>by
  subst ec;cases c with
  |true=>rw[Aa rfl]at o1 ⊢;exact o1 β1 true H1 Ext.refl ⟨rfl,r1⟩
  |false=>rw[Ab Ao]at o1 ⊢;exact⟨F.to β1 h1,r1,o1⟩
def qM {t:T3} (ha:PT X a (zO κ E t)):PT X (.UnaryOp .Not a pos) (zO κ E (tNot3 t)):=PTw (Lq ha) fun σ H Q ⟨F,rel,o⟩=>
 (yh (K:=kT κ) km_T rel o).mono fun c H1 ⟨β1,h1,x,e1,⟨ec,r1⟩,o1⟩=>by
  subst ec;exact o1 β1 _ H1 Ext.refl ⟨rfl,r1⟩
def eAnd (a b:E3):E3:=fun s h=>(tE a s h).bind fun c h1=>if c=true then b s h1 else .ok (.v (.bl false)) h1
def eOr (a b:E3):E3:=fun s h=>(tE a s h).bind fun c h1=>if c=true then .ok (.v (.bl true)) h1 else b s h1
def eNot (a:E3):E3:=fun s h=>(tE a s h).bind fun c h1=>.ok (.v (.bl !c)) h1
def GP {d u:E3} {rest:List Expr} (ha:PE X a (zh κ E d)) (hb:PE X (.BoolOp .And (b::rest) pos) (zh κ E u)):PE X (.BoolOp .And (a::b::rest) pos) (zh κ E (eAnd d u)):=yL (Lv ha hb) fun σ H Q ⟨F,rel,o⟩=>by
 refine tOf.mono (DU (yh (a:=tE d) (K:=kT κ) zH rel o)) fun x H1 ⟨k,ex,β1,h1,c,e1,⟨ec,r1⟩,o1⟩=>⟨k,ex,?_⟩
 subst ec;cases k with
 |true=>rw[Aa rfl]at o1 ⊢;exact⟨F.to β1 h1,r1,o1⟩
 |false=>rw[Ab Ao]at o1 ⊢;exact o1 β1 _ H1 Ext.refl ⟨r1,.bl false⟩
def r_or {d u:E3} {rest:List Expr} (ha:PE X a (zh κ E d)) (hb:PE X (.BoolOp .Or (b::rest) pos) (zh κ E u)):PE X (.BoolOp .Or (a::b::rest) pos) (zh κ E (eOr d u)):=yL (Lw ha hb) fun σ H Q ⟨F,rel,o⟩=>by
 refine tOf.mono (DU (yh (a:=tE d) (K:=kT κ) zH rel o)) fun x H1 ⟨k,ex,β1,h1,c,e1,⟨ec,r1⟩,o1⟩=>⟨k,ex,?_⟩
 subst ec;cases k with
 |true=>rw[Aa rfl]at o1 ⊢;exact o1 β1 _ H1 Ext.refl ⟨r1,.bl true⟩
 |false=>rw[Ab Ao]at o1 ⊢;exact⟨F.to β1 h1,r1,o1⟩
def N2 {d:E3} (ha:PE X a (zh κ E d)):PE X (.UnaryOp .Not a pos) (zh κ E (eNot d)):=yL (Lx ha) fun σ H Q ⟨F,rel,o⟩=>by
 refine tOf.mono (DU (yh (a:=tE d) (K:=kT κ) zH rel o)) fun x H1 ⟨k,ex,β1,h1,c,e1,⟨ec,r1⟩,o1⟩=>⟨k,ex,?_⟩
 subst ec;exact o1 β1 _ H1 Ext.refl ⟨r1,.bl _⟩
def EM {op} {d:E3} (h:PE X a (zh κ E d)):PE X (.BoolOp op [a] pos) (zh κ E d):=Lu h
def eIf (t:T3) (a b:E3):E3:=fun s h=>(t s h).bind fun c h1=>if c=true then a s h1 else b s h1
def r_if {c:Expr} {t:T3} {da db:E3} (hc:PT X c (zO κ E t)) (ha:PE X a (zh κ E da)) (hb:PE X b (zh κ E db)):PE X (.IfExp c a b pos) (zh κ E (eIf t da db)):=yL (Ly hc ha hb) fun σ H Q ⟨F,rel,o⟩=>
 (yh (K:=kT κ) zH rel o).mono fun c H1 ⟨β1,h1,x,e1,⟨ec,r1⟩,o1⟩=>by
  subst ec;cases c with
  |true=>rw[Aa rfl]at o1 ⊢;exact⟨F.to β1 h1,r1,o1⟩
  |false=>rw[Ab Ao]at o1 ⊢;exact⟨F.to β1 h1,r1,o1⟩
end
inductive O3 where
 |nx (s:S3) (h:H3)|rt (r:Vl) (h:H3)|bk (s:S3) (h:H3)|ct (s:S3) (h:H3)|ex (x:X3) (h:H3)|no
abbrev D3:=S3->H3->O3
structure SExt (F:Fr) (H:Hp) (F':Fr) (H':Hp):Prop where
 ext:Ext (fun a=>some a∈F.l) F.β H F'.β H'
 lam:∀a,some a∈F'.l->some a∈F.l\/H a=none
 oi:F'.Oi=F.Oi
 tt:F'.T=[]
abbrev NwS (F:Fr) (H:Hp):Addr->Prop:=fun p=>some p∈F.l\/H p=none
def SOut (κ:Kx) (E:XK) (F:Fr) (H:Hp) (D:Ends):O3->Prop
 |.nx s' h'=> ∀F' σ' H',SExt F H F' H'->F'.s=s'->F'.h=h'->Rel κ F' σ' H'->D.nx σ' H'
 |.bk s' h'=> ∀F' σ' H',SExt F H F' H'->F'.s=s'->F'.h=h'->Rel κ F' σ' H'->D.bk σ' H'
 |.ct s' h'=> ∀F' σ' H',SExt F H F' H'->F'.s=s'->F'.h=h'->Rel κ F' σ' H'->D.ct σ' H'
 |.rt r h'=> ∀F' σ' v H',SExt F H F' H'->F'.h=h'->Post κ (NwS F H) F' σ' H' r v->D.rt v H'
 |.ex x h'=> ∀F' H',SExt F H F' H'->RelH κ F'.Oi F'.β h' H'->XOk κ E x H'
 |.no=>False
def zr (κ:Kx) (E:XK) (d:D3):TS:=fun D σ H=> ∃F,Rel κ F σ H/\F.T=[]/\SOut κ E F H D (d F.s F.h)
section
variable {X:Cx} {κ:Kx} {E:XK} {F F1 F2:Fr} {σ σ':St} {H H1 H2 H':Hp} {Q:VK} {r:R} {p:Addr} {e a b:Expr} {pos:Pos} {i:Nat} {D:Ends}
theorem SExt.refl (ht:F.T=[]):SExt F H F H:=⟨Ext.refl,fun _ h=>.inl h,rfl,ht⟩
theorem SExt.trans (a:SExt F H F1 H1) (b:SExt F1 H1 F2 H2):SExt F H F2 H2 where
 ext:=⟨fun x o h n m=>(by
   obtain⟨h1,n1⟩:=a.ext.keep x o h n m
   refine b.ext.keep x o h1 n1 fun z=>?_
   rcases a.lam x z with q|q
   .exact m q
   .rw[h]at q;cases q),Bc a.ext.len b.ext.len,fun i x hi h=>a.ext.bet i x hi (b.ext.bet i x (Ar hi a.ext.len) h),fun x o h=>let ⟨o1,h1⟩:=a.ext.there x o h;b.ext.there x o1 h1,Jg a.ext.there (fun i x hi h=>b.ext.bet i x hi h) a.ext.nwb b.ext.nwb⟩
 lam:=fun x h=>by
  rcases b.lam x h with q|q
  .exact a.lam x q
  .cases w:H x with
   |none=>exact .inr rfl
   |some o=>
    obtain⟨o',z⟩:=a.ext.there x o w;rw[q]at z;cases z
 oi:=b.oi.trans a.oi
 tt:=b.tt
def SExt.of0 {β':AO} {h':H3} (ht:F.T=[]) (e:Ext No F.β H β' H'):SExt F H (F.to β' h') H':=
 ⟨⟨fun x o h n _=>e.keep x o h n fun z=>z,e.len,e.bet,e.there,e.nwb⟩,fun _ h=>.inl h,rfl,ht⟩
theorem SOut.move {o:O3} (e:SExt F H F1 H1) (h:SOut κ E F H D o):SOut κ E F1 H1 D o:=by
 cases o with
 |nx s h'=>exact fun F2 σ2 H2 e2=>h F2 σ2 H2 (e.trans e2)
 |bk s h'=>exact fun F2 σ2 H2 e2=>h F2 σ2 H2 (e.trans e2)
 |ct s h'=>exact fun F2 σ2 H2 e2=>h F2 σ2 H2 (e.trans e2)
 |rt r h'=>exact fun F2 σ2 v H2 e2 eh q=>h F2 σ2 v H2 (e.trans e2) eh (q.imp fun p hp=>hp.elim (e.lam p) fun z=>.inr (e.ext.nw p z))
 |ex x h'=>exact fun F2 H2 e2=>h F2 H2 (e.trans e2)
 |no=>exact h
def je {st:Stmt} {t t':TS} (h:PS X st t) (w:∀D σ H,t' D σ H->t D σ H):PS X st t':=fun pins s σ H D I q=>h pins s σ H D I (w D σ H q)
def PSsw {st:List Stmt} {t t':TS} (h:yB X st t) (w:∀D σ H,t' D σ H->t D σ H):yB X st t':=fun pins s σ H D I q=>h pins s σ H D I (w D σ H q)
def sSkip:D3:=fun s h=>.nx s h
def sSeq (a b:D3):D3:=fun s h=>match a s h with
 |.nx s1 h1=>b s1 h1
 |o=>o
def ye:yB X [] (zr κ E sSkip):=PSsw L0 fun D σ H ⟨F,rel,ht,o⟩=>o F σ H (.refl ht) rfl rfl rel
def zn {st:Stmt} {rest:List Stmt} {da db:D3} (h1:PS X st (zr κ E da)) (h2:yB X rest (zr κ E db)):yB X (st::rest) (zr κ E (sSeq da db)):=PSsw (L1 h1 h2) fun D σ H ⟨F,rel,ht,o⟩=>by
 refine⟨F,rel,ht,?_⟩
 unfold sSeq at o;cases q:da F.s F.h with
 |nx s1 h1=>
  rw[q]at o;intro F' σ' H' e es eh r'
  refine⟨F',r',e.tt,?_⟩
  rw[es,eh];exact SOut.move e o
 |rt r h=>rw[q]at o;exact o
 |bk s h=>rw[q]at o;exact o
 |ct s h=>rw[q]at o;exact o
 |ex x h=>rw[q]at o;exact o
 |no=>rw[q]at o;exact o
def zo {st:Stmt} {da:D3} (h1:PS X st (zr κ E da)):yB X [st] (zr κ E da):=Ik h1
def ju {α:Type} {l:List α} {i j:Nat} {x y:α} (h:(l.set i x)[j]? =some y):(i=j/\y=x)\/(i≠j/\l[j]? =some y):=by
 rw[Bu]at h
 by_cases e:i=j
 .rw[Aa e]at h
  by_cases e2:i<l.length
  .rw[Aa e2]at h;exact .inl ⟨e,(Option.some.inj h).symm⟩
  .rw[Ab e2]at h;cases h
 .rw[Ab e]at h;exact .inr ⟨e,h⟩
def jd {l:AO} {i:Nat} {x:Option Addr} {a:Addr} (h:some a∈l.set i x):(x=some a)\/(some a∈l/\∃j,j≠i/\l[j]? =some (some a)):=by
 obtain⟨j,hj⟩:=C6 h
 rcases ju hj with ⟨_,e⟩|⟨n,e⟩
 .exact .inl e.symm
 .exact .inr ⟨Al e,j,fun z=>n z.symm,e⟩
abbrev Fr.setV (F:Fr) (i:Nat) (x:V3):Fr:={F with s:=F.s.set i (some (.v x)),l:=F.l.set i none}
abbrev Fr.setM (F:Fr) (i:Nat) (c:C3) (p:Addr):Fr:={F with s:=F.s.set i (some (.m c)),l:=F.l.set i (some p)}
abbrev Fr.setN (F:Fr) (i:Nat):Fr:={F with s:=F.s.set i none,l:=F.l.set i none}
def EN {F:Fr} {i:Nat} {s:S3} {a:Addr} (h:({F with s:=s,l:=F.l.set i none}:Fr).O a):F.O a:=by
 rcases h with h|h|h
 .exact .inl h
 .rcases jd h with z|z
  .cases z
  .exact .inr (.inl z.1)
 .exact .inr (.inr h)
def Rel.setGen {F:Fr} {i:Nat} {s:S3} {σ':St} (rel:Rel κ F σ H) (hsl:s.length=F.s.length) (hσ:σ'.length=σ.length)
  (hslot:∀(j:Nat) x,s[j]? =some (some x)->(∃v,σ'[j]? =some (some v)/\SlotR κ ({F with s:=s,l:=F.l.set i none}:Fr) H j x v)):Rel κ {F with s:=s,l:=F.l.set i none} σ' H where
 heap:=rel.heap.sub fun a ha=>EN ha
 slen:=by show s.length=_;rw[hsl,hσ];exact rel.slen
 llen:=by show (F.l.set i none).length=s.length;rw[A4,hsl];exact rel.llen
 linj:=fun j k a h1 h2=>by
  rcases ju h1 with ⟨_,z⟩|⟨_,z1⟩
  .cases z
  .rcases ju h2 with ⟨_,z⟩|⟨_,z2⟩
   .cases z
   .exact rel.linj j k a z1 z2
 lt:=fun a ha=>by
  rcases jd ha with z|z
  .cases z
  .exact rel.lt a z.1
 lo:=fun a ha=>by
  rcases jd ha with z|z
  .cases z
  .exact rel.lo a z.1
 to:=rel.to
 tn:=rel.tn
 slot:=hslot
def Rel.slotNe {F:Fr} {i j:Nat} {s:S3} {x:Vl} {v:V} (hn:i≠j) (q:SlotR κ F H j x v):SlotR κ ({F with s:=s,l:=F.l.set i none}:Fr) H j x v:=by
 cases x with
 |v x=>exact Rep.sub (fun a ha=>EN ha) q
 |m c=>
  obtain⟨a,h1,h2,h3⟩:=q
  refine⟨a,?_,h2,h3.sub fun a ha=>EN ha⟩
  show (F.l.set i none)[j]? =_;rw[Bu,Ab hn];exact h1
theorem Rel.setV {x:V3} {v:V} (rel:Rel κ F σ H) (hr:Rep κ F.β F.O H x v) (hi:i<F.s.length):Rel κ (F.setV i x) (σ.set i (some v)) H:=by
 refine rel.setGen (by rw[A4]) (by rw[A4]) fun j y hj=>?_
 rcases ju hj with ⟨e,z⟩|⟨n,z⟩
 .subst e;cases z
  refine⟨v,?_,Rep.sub (fun a ha=>EN ha) hr⟩
  rw[Bu,Aa rfl,Aa (by rw[<-rel.slen];exact hi)]
 .obtain⟨w,h1,h2⟩:=rel.slot j y z
  exact⟨w,by rw[Bu,Ab n];exact h1,Rel.slotNe n h2⟩
theorem Rel.setN {i:Nat} (rel:Rel κ F σ H):Rel κ (F.setN i) σ H:=by
 refine rel.setGen (by rw[A4]) rfl fun j y hj=>?_
 rcases ju hj with ⟨e,z⟩|⟨n,z⟩
 .cases z
 .obtain⟨w,h1,h2⟩:=rel.slot j y z
  exact⟨w,h1,Rel.slotNe n h2⟩
def FQ {F:Fr} {i:Nat} {s:S3} {a p:Addr} (h:({F with s:=s,l:=F.l.set i (some p)}:Fr).O a):(F.with p).O a:=by
 rcases h with h|h|h
 .exact .inl (Av _ h)
 .rcases jd h with z|z
  .cases z;exact .inl An
  .exact .inr (.inl z.1)
 .exact .inr (.inr h)
theorem Rel.setM {c:C3} (rel:Rel κ (F.with p) σ H) (hr:CellR κ F.β (F.with p).O H c p) (hi:i<F.s.length):Rel κ (F.setM i c p) (σ.set i (some (.ref p))) H where
 heap:=rel.heap.sub fun a ha=>FQ ha
 slen:=by show (F.s.set i _).length=_;rw[A4,A4];exact rel.slen
 llen:=by show (F.l.set i _).length=(F.s.set i _).length;rw[A4,A4];exact rel.llen
 linj:=fun j k a h1 h2=>by
  rcases ju h1 with ⟨e1,z1⟩|⟨n1,z1⟩<;>rcases ju h2 with ⟨e2,z2⟩|⟨n2,z2⟩
  .lia
  .cases z1;exact absurd An (rel.lt p (Al z2))
  .cases z2;exact absurd An (rel.lt p (Al z1))
  .exact rel.linj j k a z1 z2
 lt:=fun a ha z=>by
  rcases jd ha with q|q
  .cases q;exact (Bn.mp rel.tn).1 z
  .exact rel.lt a q.1 (Av _ z)
 lo:=fun a ha=>by
  rcases jd ha with q|q
  .cases q;exact rel.to p An
  .exact rel.lo a q.1
 to:=fun a ha=>rel.to a (Av _ ha)
 tn:=(Bn.mp rel.tn).2
 slot:=fun j y hj=>by
  rcases ju hj with ⟨e,z⟩|⟨n,z⟩
  .subst e;cases z
   refine⟨.ref p,?_,p,?_,rfl,hr.sub fun a ha=>FQ ha⟩
   .rw[Bu,Aa rfl,Aa (by rw[<-rel.slen];exact hi)]
   .show (F.l.set i _)[i]? =_
    rw[Bu,Aa rfl,Aa (by have h:=rel.llen;show i<F.l.length;rw[show F.l.length=F.s.length from h];exact hi)]
  .obtain⟨w,h1,h2⟩:=rel.slot j y z
   refine⟨w,by rw[Bu,Ab n];exact h1,?_⟩
   cases y with
   |v x=>exact Rep.sub (fun a ha=>FQ ha) h2
   |m c=>
    obtain⟨a,q1,q2,q3⟩:=h2
    refine⟨a,?_,q2,q3.sub fun a ha=>FQ ha⟩
    show (F.l.set i _)[j]? =_;rw[Bu,Ab n];exact q1
def SExt.setN {s:S3} (ht:F.T=[]):SExt F H ({F with s:=s,l:=F.l.set i none}:Fr) H:=
 ⟨Ext.refl,fun a h=>by
  rcases jd h with z|z
  .cases z
  .exact .inl z.1,rfl,ht⟩
def Res.bindS {α:Type} (r:Res α) (k:α->H3->O3):O3:=match r with
 |.ok r h=>k r h
 |.ex x h=>.ex x h
 |.no=>.no
theorem bindS {α ω:Type} {K:Kd α ω} {a:S3->H3->Res α} {k:α->H3->O3} (rel:Rel κ F σ H) (ht:F.T=[]) (o:SOut κ E F H D ((a F.s F.h).bindS k)):
  tOf κ E K a σ H (fun w H1=> ∃β1 h1 x,Ext No F.β H β1 H1/\K H (F.to β1 h1) σ H1 x w/\SOut κ E F H D (k x h1)):=by
 refine⟨F,rel,?_⟩
 cases q:a F.s F.h with
 |no=>rw[q]at o;exact o
 |ex x h1=>rw[q]at o;exact fun β' H' e r=>o (F.to β' h1) H' (SExt.of0 ht e) r
 |ok r h1=>rw[q]at o;exact fun β1 v H1 e p=>⟨β1,h1,r,e,p,o⟩
def sSet (i:Nat) (e:E3):D3:=fun s h=>(e s h).bindS fun r h1=>if i<s.length then .nx (s.set i (some r)) h1 else .no
def GQ {d:E3} (h:zr κ E (sSet i d) D σ H):zh κ E d σ H (fun v H1=>D.nx (σ.set i (some v)) H1):=by
 obtain⟨F,rel,ht,o⟩:=h
 refine (bindS (K:=kE κ) rel ht o).mono fun v H1 ⟨β1,h1,r,e1,p1,o⟩=>?_
 by_cases hi:i<F.s.length
 .rw[Aa hi]at o
  cases r with
  |v x=>
   obtain⟨r1,r2⟩:=p1;exact o ((F.to β1 h1).setV i x) _ H1 ((SExt.of0 (h':=h1) ht e1).trans (SExt.setN ht)) rfl rfl (r1.setV r2 hi)
  |m c=>
   obtain⟨p,rfl,r1,r2,hp⟩:=p1
   refine o ((F.to β1 h1).setM i c p) _ H1 ?_ rfl rfl (r1.setM r2 hi)
   exact⟨(SExt.of0 (h':=h1) ht e1).ext,fun a ha=>by
    rcases jd ha with z|z
    .cases z;exact .inr hp
    .exact .inl z.1,rfl,ht⟩
 .rw[Ab hi]at o;exact o.elim
def N3 {x:Str} {pos':Pos} {d:E3} (hN:X.N.Nodup) (hi:X.N[i]? =some x) (hx:jq X.env.scope x) (he:PE X e (zh κ E d)) (hs:swapsWith e (some (.Name x pos')) pos.line X.env=pure false:=by rfl)
 (hf:X.fn x=true\/X.env.scope.names.lookup x=some .local:=by first|exact .inl rfl|exact .inr rfl|assumption):PS X (.Assign [.Name x pos'] e pos) (zr κ E (sSet i d)):=je (Ip hN hi hx he hs hf) fun D σ H h=>GQ h
def sExp (e:E3):D3:=fun s h=>(e s h).bindS fun _ h1=>.nx s h1
def sRet (e:E3):D3:=fun s h=>(e s h).bindS fun r h1=>.rt r h1
def zT {d:E3} (he:PE X e (zh κ E d)):PS X (.Return (some e) pos) (zr κ E (sRet d)):=je (Il he) fun D σ H ⟨F,rel,ht,o⟩=>
 (bindS (K:=kE κ) rel ht o).mono fun v H1 ⟨β1,h1,r,e1,p1,o⟩=>o (F.to β1 h1) σ v H1 (SExt.of0 ht e1) rfl (p1.imp fun p hp=>.inr hp)
def sRetN:D3:=fun _ h=>.rt (.v .non) h
def Rel.take {c:C3} (rel:Rel κ F σ H) (hl:F.l[i]? =some (some p)):Rel κ ((F.setN i).with p) σ H:=by
 have r1:=rel.setN (i:=i);have ho:∀a,((F.setN i).with p).O a->F.O a:=fun a ha=>by
  rcases ha with z|z
  .rcases Ae.mp z with z|z
   .subst z;exact .inr (.inl (Al hl))
   .exact .inl z
  .rcases z with z|z
   .rcases jd z with w|w
    .cases w
    .exact .inr (.inl w.1)
   .exact .inr (.inr z)
 have hb:∀a,some a∈F.l.set i none->a≠p:=fun a ha z=>by
  subst z
  rcases jd ha with w|⟨_,j,hj,w⟩
  .cases w
  .exact hj (rel.linj j i a w hl)
 refine⟨rel.heap.sub ho,r1.slen,r1.llen,r1.linj,fun a ha z=>?_,r1.lo,fun a ha z=>?_,Bn.mpr ⟨fun z=>rel.lt p (Al hl) z,rel.tn⟩,fun j y hj=>?_⟩
 .rcases Ae.mp z with z|z
  .exact hb a ha z
  .exact r1.lt a ha z
 .rcases Ae.mp ha with h|h
  .subst h;exact rel.lo a (Al hl) z
  .exact rel.to a h z
 .rcases ju hj with ⟨_,z⟩|⟨n,z⟩
  .cases z
  .obtain⟨w,h1,h2⟩:=rel.slot j y z
   refine⟨w,h1,?_⟩
   cases y with
   |v x=>exact Rep.sub ho h2
   |m c=>
    obtain⟨a,q1,q2,q3⟩:=h2
    refine⟨a,?_,q2,q3.sub ho⟩
    show (F.l.set i none)[j]? =_;rw[Bu,Ab n];exact q1
def N4 {a:Addr} (hl:F.l[i]? =some (some p)) (ha:((F.setN i).with p).O a):F.O a:=by
 rcases ha with z|z
 .rcases Ae.mp z with z|z
  .subst z;exact .inr (.inl (Al hl))
  .exact .inl z
 .rcases z with z|z
  .rcases jd z with w|w
   .cases w
   .exact .inr (.inl w.1)
  .exact .inr (.inr z)
def sRetS (i:Nat):D3:=fun s h=>match s[i]? with
 |some (some r)=>.rt r h
 |_=>.no
def AB (hv:PE X e (tVar i)):PS X (.Return (some e) pos) (zr κ E (sRetS i)):=je (Il hv) fun D σ H ⟨F,rel,ht,o⟩=>by
 unfold sRetS at o;cases q:F.s[i]? with
 |none=>rw[q]at o;exact o.elim
 |some z=>
  rw[q]at o
  match z,q,o with
  |none,q,o=>exact o.elim
  |some (.v x),q,o=>
   obtain⟨v,h1,h2⟩:=rel.slot i _ q;exact⟨v,h1,o F σ v H (.refl ht) rfl ⟨rel,h2⟩⟩
  |some (.m c),q,o=>
   obtain⟨v,h1,a,h2,h3,h4⟩:=rel.slot i _ q;subst h3;exact⟨_,h1,o (F.setN i) σ (.ref a) H (SExt.setN ht) rfl ⟨a,rfl,Rel.take (c:=c) rel h2,h4.sub fun b hb=>N4 h2 hb,.inl (Al h2)⟩⟩
def sFz (i:Nat):D3:=fun s h=>match s[i]? with
 |some (some (.m c))=>match c.fz with
  |some x=>.nx (s.set i (some (.v x))) h
  |none=>.no
 |_=>.nx s h
def N5 {d:D3} (h:zr κ E (sSeq (sFz i) d) D σ H):zr κ E d D σ H:=by
 obtain⟨F,rel,ht,o⟩:=h;unfold sSeq sFz at o;have same:(match (F.s[i]? :Option (Option Vl)) with|some (some (.m c))=>False|_=>True)->SOut κ E F H D (d F.s F.h)->zr κ E d D σ H:=fun _ o=>⟨F,rel,ht,o⟩
 cases q:F.s[i]? with
 |none=>rw[q]at o same;exact same trivial o
 |some z=>
  rw[q]at o same
  match z,q,o,same with
  |none,q,o,same=>exact same trivial o
  |some (.v x),q,o,same=>exact same trivial o
  |some (.m c),q,o,same=>
   cases z:c.fz with
   |none=>simp only[z]at o;exact o.elim
   |some x=>
    simp only[z]at o;obtain⟨v,h1,a,h2,h3,h4⟩:=rel.slot i _ q;subst h3;have hi:i<F.s.length:=(As.mp q).1;have rt:=Rel.take (c:=c) rel h2;have rep:Rep κ F.β (F.setN i).O H x (.ref a):=(h4.sub (O':=(F.setN i).O) fun b hb=>EN hb).fz z rt.offp rt.apart
    have r2:=(rel.setN (i:=i)).setV (i:=i) (x:=x) (v:= .ref a) rep (by show i<(F.s.set i none).length;rw[A4];exact hi)
    have e1:(F.setN i).setV i x=F.setV i x:=by
     show ({F with s:=(F.s.set i none).set i _,l:=(F.l.set i none).set i none}:Fr)={F with s:=F.s.set i _,l:=F.l.set i none}
     rw[List.set_set,List.set_set]
    have e2:σ.set i (some (.ref a))=σ:=by
     apply List.ext_getElem?;intro j
     rw[Bu]
     by_cases hj:i=j
     .subst hj;rw[Aa rfl,Aa (by rw[<-rel.slen];exact hi),h1]
     .rw[Ab hj]
    rw[e1,e2]at r2;exact⟨F.setV i x,r2,ht,SOut.move (SExt.setN ht) o⟩
def AR {sts:List Stmt} {d:D3} (i:Nat) (h:yB X sts (zr κ E d)):yB X sts (zr κ E (sSeq (sFz i) d)):=PSsw h fun D σ H q=>N5 q
def sIf (t:T3) (a b:D3):D3:=fun s h=>(t s h).bindS fun c h1=>if c=true then a s h1 else b s h1
def z0 {c:Expr} {sa sb:List Stmt} {t:T3} {da db:D3} (hc:PT X c (zO κ E t)) (ha:yB X sa (zr κ E da)) (hb:yB X sb (zr κ E db)):PS X (.If c sa sb pos) (zr κ E (sIf t da db)):=je (L7 hc ha hb) fun D σ H ⟨F,rel,ht,o⟩=>
 (bindS (K:=kT κ) rel ht o).mono fun c H1 ⟨β1,h1,x,e1,⟨ec,r1⟩,o1⟩=>by
  subst ec;have mv:=SExt.of0 (h':=h1) ht e1;cases c with
  |true=>rw[Aa rfl]at o1 ⊢;exact⟨F.to β1 h1,r1,ht,SOut.move mv o1⟩
  |false=>rw[Ab Ao]at o1 ⊢;exact⟨F.to β1 h1,r1,ht,SOut.move mv o1⟩
def sNever:D3:=fun _ _=>.no
abbrev G3:=V3->S3->Option S3
abbrev Gs3:=List V3->S3->Option S3
def gN (i:Nat):G3:=fun x s=>if i<s.length then some (s.set i (some (.v x))) else none
def gsNil:Gs3:=fun xs s=>match xs with
 | []=>some s
 |_=>none
def gsCons (g:G3) (gs:Gs3):Gs3:=fun xs s=>match xs with
 |x::r=>(g x s).bind fun s1=>gs r s1
 | []=>none
def gT (gs:Gs3):G3:=fun x s=>match x with
 |.tup xs=>gs xs s
 |_=>none
def gL (gs:Gs3):G3:=fun x s=>match x with
 |.lst xs=>gs xs s
 |_=>none
def yj (κ:Kx) (g:G3):TG:=fun v σ H Q=> ∃F x s',Rel κ F σ H/\F.T=[]/\Rep κ F.β F.O H x v/\g x F.s=some s'/\∀F' σ',SExt F H F' H->F'.β=F.β->F'.s=s'->F'.h=F.h->Rel κ F' σ' H->Q σ' H
def EO (κ:Kx) (g:Gs3):jp:=fun vs σ H Q=> ∃F xs s',Rel κ F σ H/\F.T=[]/\Reps κ F.β F.O H xs vs/\g xs F.s=some s'/\∀F' σ',SExt F H F' H->F'.β=F.β->F'.s=s'->F'.h=F.h->Rel κ F' σ' H->Q σ' H
def PGw {tg:Expr} {t t':TG} (h:PG X tg t) (w:∀v σ H Q,t' v σ H Q->t v σ H Q):PG X tg t':=fun pins s σ H v u Q I r q=>h pins s σ H v u Q I r (w v σ H Q q)
def PGsw {tg:List Expr} {t t':jp} (h:jl X tg t) (w:∀v σ H Q,t' v σ H Q->t v σ H Q):jl X tg t':=fun pins s σ H v u Q I r q=>h pins s σ H v u Q I r (w v σ H Q q)
def Jh {a:Addr} {o:HO} (e:SExt F H F' H') (ha:H a=some o) (n: ¬F.O a): ¬F'.O a:=fun z=>by
 rcases z with z|z|z
 .rw[e.tt]at z;cases z
 .rcases e.lam a z with w|w
  .exact n (.inr (.inl w))
  .rw[ha]at w;cases w
 .rw[e.oi]at z;exact n (.inr (.inr z))
def Rep.sext {x:V3} {v:V} (e:SExt F H F' H') (r:Rep κ F.β F.O H x v):Rep κ F'.β F'.O H' x v:=r.ext e.ext (fun a h=>.inr (.inl h)) fun a o ha n=>Jh e ha n
def Reps.sext {x:List V3} {v:List V} (e:SExt F H F' H') (r:Reps κ F.β F.O H x v):Reps κ F'.β F'.O H' x v:=r.ext e.ext (fun a h=>.inr (.inl h)) fun a o ha n=>Jh e ha n
def Ji {tg:Expr} (h:PG X tg (DN i)):PG X tg (yj κ (gN i)):=PGw h fun v σ H Q ⟨F,x,s',rel,ht,r,e,k⟩=>by
 unfold gN at e
 by_cases hi:i<F.s.length
 .rw[Aa hi]at e;cases e
  exact k (F.setV i x) _ (SExt.setN ht) rfl rfl rfl (rel.setV r hi)
 .rw[Ab hi]at e;cases e
def CM:jl X [] (EO κ gsNil):=PGsw L8 fun v σ H Q ⟨F,xs,s',rel,ht,r,e,k⟩=>by
 cases r with
 |nil=>cases e;exact⟨rfl,k F σ (.refl ht) rfl rfl rfl rel⟩
 |cons _ _=>cases e
theorem yV {es:List Expr} {g:G3} {gs:Gs3} (h1:PG X e (yj κ g)) (h2:jl X es (EO κ gs)) (hh:∀{t:TG} {u:jp},PG X e t->jl X es u->jl X (e::es) (Io t u)):jl X (e::es) (EO κ (gsCons g gs)):=PGsw (hh h1 h2) fun v σ H Q ⟨F,xs,s',rel,ht,r,e,k⟩=>by
 cases r with
 |nil=>cases e
 | @cons x y xs ys a b=>
  cases q:g x F.s with
  |none=>simp only[gsCons,q]at e;cases e
  |some s1=>
   simp only[gsCons,q]at e
   refine⟨y,ys,rfl,F,x,s1,rel,ht,a,q,fun F1 σ1 e1 b1 s1' h1 r1=>?_⟩
   have e:gs xs s1=some s':=e
   refine⟨F1,xs,s',r1,e1.tt,b.sext e1,by rw[s1'];exact e,fun F2 σ2 e2 b2 s2' h2 r2=>?_⟩
   exact k F2 σ2 (e1.trans e2) (b2.trans b1) s2' (h2.trans h1) r2
def ER {tg:Expr} {gs:Gs3} {n:Nat} (h:PG X tg (gTup X.K n (EO κ gs))) (hn:∀xs s s',gs xs s=some s'->xs.length=n):PG X tg (yj κ (gT gs)):=PGw h fun v σ H Q ⟨F,x,s',rel,ht,r,e,k⟩=>by
 unfold gT at e;cases x<;>first|cases e|skip
 cases r with
 |tup h1 h2 h3 h4=>exact⟨_,_,rfl,.of h1,by rw[<-h4.length];exact hn _ _ _ e,F,_,s',rel,ht,h4,e,k⟩
def Jj {tg:Expr} {gs:Gs3} {n:Nat} (h:PG X tg (gLst X.K n (EO κ gs))) (hn:∀xs s s',gs xs s=some s'->xs.length=n):PG X tg (yj κ (gL gs)):=PGw h fun v σ H Q ⟨F,x,s',rel,ht,r,e,k⟩=>by
 unfold gL at e;cases x<;>first|cases e|skip
 cases r with
 |lst h1 h2 h3 h4=>exact⟨_,_,rfl,.of h1,by rw[<-h4.length];exact hn _ _ _ e,F,_,s',rel,ht,h4,e,k⟩
def sAsg (g:G3) (e:E3):D3:=fun s h=>(e s h).bindS fun r h1=>match r.fz with
 |some x=>match g x s with
  |some s1=>.nx s1 h1
  |none=>.no
 |none=>.no
def N6 {d:E3} {g:G3} (h:zr κ E (sAsg g d) D σ H):tAsg (zh κ E d) (yj κ g) D σ H:=by
 obtain⟨F,rel,ht,o⟩:=h
 refine (bindS (K:=kE κ) rel ht o).mono fun v H1 ⟨β1,h1,r,e1,p1,o⟩=>?_
 cases z:r.fz with
 |none=>simp only[z]at o;exact o.elim
 |some x=>
  simp only[z]at o;cases w:g x F.s with
  |none=>rw[w]at o;exact o.elim
  |some s1=>
   rw[w]at o;obtain⟨r1,r2⟩:=Post.fz p1 z;exact⟨F.to β1 h1,x,s1,r1,ht,r2,w,fun F' σ' e' b' s' h' r'=>o F' σ' H1 ((SExt.of0 (h':=h1) ht e1).trans e') s' h' r'⟩
def GR {tg:Expr} {d:E3} {g:G3} (he:PE X e (zh κ E d)) (hg:PG X tg (yj κ g)) (hh:∀{te:TE} {g:TG},PE X e te->PG X tg g->PS X (.Assign [tg] e pos) (tAsg te g)):PS X (.Assign [tg] e pos) (zr κ E (sAsg g d)):=je (hh he hg) fun D σ H h=>N6 h
end
structure It3 where
 its:List V3
 xs:List V3
 ok:H3->Prop
def IR (κ:Kx) (it:It3) (vs:List V) (J:It):Prop:=∀(F:Fr) (σ:St) (H:Hp),Rel κ F σ H->Reps κ F.β F.O H it.its vs->it.ok F.h->∀i:Nat,
 (i<it.xs.length->J.go i H/\∀x H',J.yld i H x H'->∃x3,it.xs[i]? =some x3/\Ext No F.β H F.β H'/\Rel κ F σ H'/\Rep κ F.β F.O H' x3 x)/\(it.xs.length<=i->J.stop i H)
abbrev I3:=S3->H3->Res It3
def kI (κ:Kx):Kd It3 It:=fun _ F σ H' it J=>Rel κ F σ H'/\∃vs,Reps κ F.β F.O H' it.its vs/\IR κ it vs J
abbrev yo (κ:Kx) (E:XK) (d:I3):TI:=tOf κ E (kI κ) d
open Classical in
def zA (ok:H3->Prop) (g:G3) (b:D3):List V3->S3->H3->O3
 | [],s,h=>if ok h then .nx s h else .no
 |x::r,s,h=>if ok h then match g x s with
  |none=>.no
  |some s1=>match b s1 h with
   |.nx s2 h2=>zA ok g b r s2 h2
   |.ct s2 h2=>zA ok g b r s2 h2
   |.bk s2 h2=>.nx s2 h2
   |o=>o
  else .no
def zw (it:I3) (g:G3) (b:D3):D3:=fun s h=>(it s h).bindS fun I h1=>zA I.ok g b I.xs s h1
open Classical in
section
variable {X:Cx} {κ:Kx} {E:XK} {F F1 F2 F':Fr} {σ σ':St} {H H1 H2 H':Hp} {Q:VK} {p:Addr} {e a b:Expr} {pos:Pos} {i:Nat} {D:Ends}
def km_I:BI (kI κ):=fun _ _ _ _ _ _ _ _ _ _ _ h=>h
theorem N7 {it:I3} {g:G3} {b:D3} (h:zr κ E (zw it g b) D σ H):tFor (yo κ E it) (yj κ g) (zr κ E b) D σ H:=by
 obtain⟨F,rel,ht,o⟩:=h
 refine (bindS (K:=kI κ) rel ht o).mono fun J H1 ⟨β1,h1,I,e1,⟨r1,vs,rv,ir⟩,o1⟩=>?_
 refine⟨fun i m σ H=>m=I.xs.length-i/\i<=I.xs.length/\∃Fk,Rel κ Fk σ H/\Fk.T=[]/\Reps κ Fk.β Fk.O H I.its vs/\SOut κ E Fk H D (zA I.ok g b (I.xs.drop i) Fk.s Fk.h),⟨_,rfl,Bk _,F.to β1 h1,r1,ht,rv,SOut.move (SExt.of0 (h':=h1) ht e1) o1⟩,?_⟩
 rintro i m σ' H' ⟨rfl,hi,Fk,rk,tk,vk,ok⟩
 by_cases hok:I.ok Fk.h
 case neg=>
  exfalso
  cases q:I.xs.drop i with
  |nil=>rw[q]at ok;unfold zA at ok;rw[Ab hok]at ok;exact ok
  |cons x r=>rw[q]at ok;unfold zA at ok;rw[Ab hok]at ok;exact ok
 obtain⟨i1,i2⟩:=ir Fk σ' H' rk vk hok i
 by_cases hlt:i<I.xs.length
 .obtain⟨go,yl⟩:=i1 hlt
  refine .inr ⟨go,fun σ2 H2=> ∃F2,Rel κ F2 σ2 H2/\F2.T=[]/\Reps κ F2.β F2.O H2 I.its vs/\SOut κ E F2 H2 D (zA I.ok g b (I.xs.drop (i+1)) F2.s F2.h),fun σ2 H2 n2=>⟨_,by lia,rfl,hlt,n2⟩,fun x H'' y=>?_⟩
  obtain⟨x3,ex,ey,ry,rp⟩:=yl x H'' y;have hd:I.xs.drop i=x3::I.xs.drop (i+1):=by
   rw[Ct hlt]
   congr 1
   rw[yq hlt]at ex;exact Option.some.inj ex
  rw[hd]at ok;have ok:=SOut.move (SExt.of0 (h':=Fk.h) tk ey) ok;unfold zA at ok;rw[Aa hok]at ok;cases w:g x3 Fk.s with
  |none=>simp only[w]at ok;exact ok.elim
  |some s1=>
   simp only[w]at ok
   refine⟨Fk,x3,s1,ry,tk,rp,w,fun F3 σ3 e3 b3 s3 h3 r3=>?_⟩
   refine⟨F3,r3,e3.tt,?_⟩
   rw[s3,h3];have ok:=SOut.move e3 ok;have ev:Reps κ F3.β F3.O H'' I.its vs:=(vk.ext0 ey).sext e3;cases q:b s1 Fk.h with
   |nx s2 h2=>simp only[q]at ok;exact fun F4 σ4 H4 e4 s4 h4 r4=>⟨F4,r4,e4.tt,ev.sext e4,by rw[s4,h4];exact SOut.move e4 ok⟩
   |ct s2 h2=>simp only[q]at ok;exact fun F4 σ4 H4 e4 s4 h4 r4=>⟨F4,r4,e4.tt,ev.sext e4,by rw[s4,h4];exact SOut.move e4 ok⟩
   |bk s2 h2=>simp only[q]at ok;exact ok
   |rt r h2=>simp only[q]at ok;exact ok
   |ex x h2=>simp only[q]at ok;exact ok
   |no=>simp only[q]at ok;exact ok
 .have hi:i=I.xs.length:=by lia
  subst hi;rw[B4]at ok;unfold zA at ok;rw[Aa hok]at ok;exact .inl ⟨i2 (Af _),ok Fk σ' H' (.refl tk) rfl rfl rk⟩
def N8 {tg iter:Expr} {body:List Stmt} {it:I3} {g:G3} {b:D3} (hp:PassesOwn (model X.prog X.w) X.A X.env X.xe) (hc:X.calm=true) (hi:PI X tg iter (yo κ E it)) (hg:PG X tg (yj κ g)) (hb:yB X body (zr κ E b))
 (hs:∀x,foldedSetIterable iter X.env x=pure x:=by intro _;rfl):PS X (.For tg iter body [] pos) (zr κ E (zw it g b)):=je (LI hp hc hi hg hb hs) fun D σ H h=>N7 h
def qr (h:H3):V3->Option (List V3×(H3->Prop))
 |.lst xs=>some (xs,fun _=>True)
 |.scr ns=>some (ns.map .int,fun _=>True)
 |.loc n=>match h[n]? with
  |some (.lst xs)=>some (xs,fun h=>h[n]? =some (.lst xs))
  |_=>none
 |_=>none
def N9 {F:Fr} {σ:St} {H:Hp} {x:V3} {xs:List V3} {v:V} (rel:Rel κ F σ H) (r:Rep κ F.β F.O H x v) (e:rdl F.s F.h (.x x)=some xs):∃a ys,v=.ref a/\SqL κ.K H a ys/\Reps κ F.β F.O H xs ys:=CK (f:= .x x) rel r e
def ES {h:H3} {x:V3} {xs:List V3} {ok:H3->Prop} (e:qr h x=some (xs,ok)):ok h/\∀s h',ok h'->rdl s h' (.x x)=some xs:=by
 cases x<;>simp[qr]at e
 case lst zs=>obtain⟨rfl,rfl⟩:=e;exact⟨trivial,fun _ _ _=>rfl⟩
 case scr ns=>obtain⟨rfl,rfl⟩:=e;exact⟨trivial,fun _ _ _=>rfl⟩
 case loc n=>
  cases q:h[n]? with
  |none=>rw[q]at e;cases e
  |some c=>
   rw[q]at e;cases c<;>simp at e
   obtain⟨rfl,rfl⟩:=e;exact⟨q,fun s h' hh=>by simp only[rdl,hh]⟩
def FR {F:Fr} {σ:St} {H:Hp} {h:H3} {x:V3} {xs:List V3} {ok:H3->Prop} {v:V} (e:qr h x=some (xs,ok)) (rel:Rel κ F σ H) (r:Rep κ F.β F.O H x v) (hk:ok F.h):∃a ys,v=.ref a/\SqL κ.K H a ys/\Reps κ F.β F.O H xs ys:=N9 rel r ((ES e).2 _ _ hk)
def PIw {tg iter:Expr} {t t':TI} (h:PI X tg iter t) (w:∀σ H R,t' σ H R->t σ H R):PI X tg iter t':=fun pins s σ H R I q=>h pins s σ H R I (w σ H R q)
def iL (p:P3):I3:=fun s h=>(p s h).bind fun f h1=>match f with
 |.x x=>match qr h1 x with
  |some (xs,ok)=>.ok ⟨[x],xs,ok⟩ h1
  |none=>.no
 |_=>.no
def NA {tg l:Expr} {d:P3} (hK:X.K=κ.K) (hl:PE X l (zq κ E d)):PI X tg l (yo κ E (iL d)):=PIw (LC hl) fun σ H R ⟨F,rel,o⟩=>
 (yh (K:=kP κ) km_I rel o).mono fun v H1 ⟨β1,h1,f,e1,⟨r1,rf⟩,o1⟩=>by
  rw[hK]
  match f,rf,o1 with
  |.s _,rf,o1=>exact o1.elim
  |.x x,rf,o1=>
   cases q:qr h1 x with
   |none=>simp only[q]at o1;exact o1.elim
   |some w=>
    obtain⟨xs,ok⟩:=w;simp only[q]at o1;have rf:Rep κ β1 F.O H1 x v:=rf;obtain⟨a,ys,ev,sq,rs⟩:=FR (F:=F.to β1 h1) q r1 rf (ES q).1;subst ev
    refine⟨a,rfl,⟨ys,sq⟩,o1 β1 _ H1 Ext.refl ⟨r1,[.ref a],.cons rf .nil,fun F' σ' H' rel' r' hk i=>?_⟩⟩
    cases r' with
    |cons r'' _=>
     obtain⟨a',ys',ev',sq',rs'⟩:=FR q rel' r'' hk;cases ev'
     refine⟨fun hi=>⟨?_,fun y H' ⟨e,yl⟩=>?_⟩,fun hi=>⟨ys',sq',by rw[<-rs'.length];exact hi⟩⟩
     .obtain⟨y,hy,_⟩:=rs'.get (i:=i) (yq hi)
      exact⟨ys',y,sq',hy⟩
     .subst e
      obtain⟨x3,h1,h2⟩:=rs'.get' (yl ys' sq');exact⟨x3,h1,Ext.refl,rel',h2⟩
end
end L3
namespace L3
open PySem PySem.Spec PyProof.Rows L2
abbrev F3:=List V3->H3->Res Vl
def start3 (n:Nat) (vs:List V3):S3:=vs.map (fun x=>some (.v x))++List.replicate (n-vs.length) none
def O3.res:O3->Res Vl
 |.nx _ h=>.ok (.v .non) h
 |.rt r h=>.ok r h
 |.ex x h=>.ex x h
 |_=>.no
def fun3 (k n:Nat) (b:D3):F3:=fun vs h=>if vs.length=k then (b (start3 n vs) h).res else .no
def NB (κ:Kx) (N:Addr->Prop) (O:Addr->Prop) (β:AO) (h:H3) (H:Hp):Vl->V->Prop
 |.v x,v=>RelH κ O β h H/\Rep κ β O H x v
 |.m c,v=> ∃p,v=.ref p/\RelH κ (fun a=>a=p\/O a) β h H/\CellR κ β (fun a=>a=p\/O a) H c p/\N p/\¬O p
def FOut (κ:Kx) (E:XK) (O:Addr->Prop) (β:AO) (H:Hp) (Q:VK):Res Vl->Prop
 |.ok r h'=> ∀β' v H',Ext No β H β' H'->NB κ (Nw H) O β' h' H' r v->Q v H'
 |.ex x h'=> ∀β' H',Ext No β H β' H'->RelH κ O β' h' H'->XOk κ E x H'
 |.no=>False
def zx (κ:Kx) (k:Nat) (f:F3):Sp:=fun vs H Q E=> ∃O β vs3 h3,vs.length=k/\RelH κ O β h3 H/\Reps κ β O H vs3 vs/\FOut κ E O β H Q (f vs3 h3)
section
variable {X:Cx} {κ:Kx} {E:XK} {F F1 F2 F':Fr} {σ σ':L2.St} {H H1 H2 H':Hp} {Q:VK} {p:Addr} {e a b o:Expr} {pos apos np:Pos} {i:Nat} {D:Ends}
def ql {a:Addr} {n:Nat}:some a∉List.replicate n (none:Option Addr):=fun h=>by cases (List.mem_replicate.mp h).2
def NC {n:Nat} {vs3:List V3} {i:Nat} {x:Vl} (h:(start3 n vs3)[i]? =some (some x)):∃y,vs3[i]? =some y/\x=.v y:=by
 unfold start3 at h
 by_cases hi:i<vs3.length
 .rw[A8 (by simpa using hi),A2]at h
  cases q:vs3[i]? with
  |none=>rw[q]at h;cases h
  |some y=>rw[q]at h;cases h;exact⟨y,rfl,rfl⟩
 .rw[Bp (by simpa using hi)]at h
  have:=List.mem_replicate.mp (Al h);cases this.2
def ND {O:Addr->Prop} {β:AO} {vs3:List V3} {vs:List V} {h3:H3} {N:List Str} (rh:RelH κ O β h3 H) (rv:Reps κ β O H vs3 vs) (hN:vs.length<=N.length):
  Rel κ ⟨O,[],β,List.replicate N.length none,start3 N.length vs3,h3⟩ (L2.start N vs) H:=by
 have hO:∀a,(⟨O,[],β,List.replicate N.length none,start3 N.length vs3,h3⟩:Fr).O a->O a:=fun a ha=>by
  rcases ha with z|z|z
  .cases z
  .exact absurd z ql
  .exact z
 have hl:=rv.length
 refine⟨rh.sub hO,?_,?_,fun i j a h=>?_,fun a ha=>absurd ha ql,fun a ha=>absurd ha ql,fun a ha=>(by cases ha),List.nodup_nil,fun i x hx=>?_⟩
 .show (start3 N.length vs3).length=_
  unfold start3 L2.start;simp only[Am,Ah,B7];lia
 .show (List.replicate N.length (none:Option Addr)).length=(start3 N.length vs3).length
  unfold start3;simp only[Am,Ah,B7];lia
 .exact absurd (Al h) ql
 .obtain⟨y,hy,rfl⟩:=NC hx
  obtain⟨v,hv,r⟩:=rv.get hy
  refine⟨v,?_,Rep.sub hO r⟩
  unfold L2.start;have hi:i<vs.length:=(As.mp hv).1;rw[A8 (by simpa using hi),A2,hv];rfl
def yE {P:Program} {w:World} {K:FG} {mg:Str->Option Value} {base:Heap} {x qual:Str} {st:Stmt} {f:Addr} {fd:FuncData} {N ps:List Str} {k:Nat} {b:D3} (Fn:Fun K x qual st f fd) (S:FnScope N ps (zR st))
  (hb:∀(cdv:Value) (A:Around) (outer:List Env) (s:Shared) (H:Hp) (E:XK),Room k (A.deeper (envOfC qual (zR st) s.heap.objs.size f cdv))->
   yB (yI (XT P w) P w K mg base N qual (zR st) f cdv A outer s H E) (CJ st) (zr κ E b)):FnOk P w K mg base (XT P w) (k+1) f fd ps (zx κ ps.length (fun3 ps.length N.length b)):=by
 refine Fn.okX S (fun vs H Q E h=>?_) fun cdv A outer s H vs Q E hr h=>?_
 .obtain⟨_,_,_,_,h,_⟩:=h;exact h
 .obtain⟨O,β,vs3,h3,hl,rh,rv,o⟩:=h
  have hpl:ps.length<=N.length:=by have:=congrArg List.length S.pre;rw[B2]at this;lia
  have rel:=ND (N:=N) rh rv (by lia)
  refine⟨zr κ E b,hb cdv A outer s H E hr,_,rel,rfl,?_⟩
  unfold fun3 at o;rw[Aa (by rw[rv.length];exact hl)]at o
  generalize hF:(⟨O,[],β,List.replicate N.length none,start3 N.length vs3,h3⟩:Fr)=F0 at rel;have e0:F0.s=start3 N.length vs3/\F0.h=h3/\F0.β=β/\F0.Oi=O/\∀a,some a∉F0.l:=by subst hF;exact⟨rfl,rfl,rfl,rfl,fun a=>ql⟩
  obtain⟨es,eh,eb,eo,el⟩:=e0;rw[es,eh];have ext:∀{F':Fr} {H':Hp},SExt F0 H F' H'->Ext No β H F'.β H':=fun {F' H'} se=>⟨fun a u h n _=>se.ext.keep a u h (by rw[eb];exact n) (el a),by rw[<-eb];exact se.ext.len,fun i a hi h=>by
   have:=se.ext.bet i a (by rw[eb];exact hi) h
   rw[eb]at this;exact this,se.ext.there,fun i a hi h=>se.ext.nwb i a (by rw[eb];exact hi) h⟩
  have hO:∀{F':Fr} {H':Hp},SExt F0 H F' H'->∀a,O a->F'.O a:=fun {F' H'} se a ha=>.inr (.inr (by rw[se.oi,eo];exact ha))
  cases q:b (start3 N.length vs3) h3 with
  |nx s1 h1=>
   rw[q]at o;exact fun F' σ' H' se _ h' r'=>o F'.β .non H' (ext se) ⟨by rw[<-h'];exact r'.heap.sub (hO se),.non⟩
  |rt r h1=>
   rw[q]at o;intro F' σ' v H' se h' p
   refine o F'.β v H' (ext se) ?_
   cases r with
   |v x=>exact⟨by rw[<-h'];exact p.1.heap.sub (hO se),Rep.sub (hO se) p.2⟩
   |m c=>
    obtain⟨p,h1,h2,h3',h4⟩:=p;have hs:∀a,a=p\/O a->(F'.with p).O a:=fun a ha=>ha.elim (fun z=>.inl (by rw[z];exact An)) fun z=>Fr.O_with (hO se a z)
    refine⟨p,h1,by rw[<-h'];exact h2.heap.sub hs,h3'.sub hs,h4.elim (fun z=>absurd z (el p)) id,fun z=>h2.apart (hO se p z)⟩
  |bk s1 h1=>rw[q]at o;exact (show False from o).elim
  |ct s1 h1=>rw[q]at o;exact (show False from o).elim
  |no=>rw[q]at o;exact o
  |ex x h1=>
   rw[q]at o;intro F' H' se r';exact o F'.β H' (ext se) (by rw[se.oi,eo]at r';exact r')
def Rel.nextNew {β':AO} {h':H3} (r:Rel κ F σ H) (e:Ext No F.β H β' H') (rh:RelH κ (fun a=>a=p\/F.O a) β' h' H') (hp:H p=none):Rel κ ((F.to β' h').with p) σ H':=by
 have n2: ¬F.O p:=(r.heap.off_new hp).2;have ho:∀a,((F.to β' h').with p).O a->a=p\/F.O a:=fun a ha=>by
  rcases ha with z|z
  .rcases Ae.mp z with z|z
   .exact .inl z
   .exact .inr (.inl z)
  .exact .inr (.inr z)
 have hO:∀a u,H a=some u->¬F.O a->¬((F.to β' h').with p).O a:=fun a u ha n z=>(ho a z).elim (fun w=>by subst w;rw[hp]at ha;cases ha) n
 refine⟨rh.sub ho,r.slen,r.llen,r.linj,fun a ha z=>?_,r.lo,fun a ha z=>?_,Bn.mpr ⟨fun z=>n2 (.inl z),r.tn⟩,fun i x q=>?_⟩
 .rcases Ae.mp z with z|z
  .subst z;exact n2 (.inr (.inl ha))
  .exact r.lt a ha z
 .rcases Ae.mp ha with h|h
  .subst h;exact n2 (.inr (.inr z))
  .exact r.to a h z
 .obtain⟨v,h1,h2⟩:=r.slot i x q
  refine⟨v,h1,?_⟩
  cases x with
  |v x=>exact Rep.ext e (fun _ z=>z.elim) hO h2
  |m c=>
   obtain⟨a,a1,a2,a3⟩:=h2;have ha:F.O a:= .inr (.inl (Al a1));exact⟨a,a1,a2,a3.ext e (fun _ z=>z.elim) hO fun u hu=>(e.keep a u hu (r.heap.off a ha) fun z=>z).1⟩
def FOut.of {r:Res Vl} (rel:Rel κ F σ H) (o:Out κ E (kE κ) F σ H Q r):FOut κ E F.O F.β H Q r:=by
 cases r with
 |no=>exact o
 |ex x h'=>exact fun β' H' e r'=>o β' H' e (r'.sub fun a ha=>.inr (.inr ha))
 |ok r h'=>
  intro β' v H' e q
  refine o β' v H' e ?_
  cases r with
  |v x=>exact⟨rel.next e q.1,q.2⟩
  |m c=>
   obtain⟨p,h1,h2,h3,h4,h5⟩:=q;have ho:∀a,((F.to β' h').with p).O a->a=p\/F.O a:=fun a ha=>by
    rcases ha with z|z
    .rcases Ae.mp z with z|z
     .exact .inl z
     .exact .inr (.inl z)
    .exact .inr (.inr z)
   exact⟨p,h1,rel.nextNew e h2 h4,h3.sub ho,h4⟩
def eCall (f:F3) (a:A3):E3:=fun s h=>(a s h).bind fun fs h1=>match vals3 fs with
 |some vs=>f vs h1
 |none=>.no
def zC (f:F3) (k:Nat):Prop:=∀vs h,vs.length≠k->f vs h=.no
def zM {k n:Nat} {b:D3}:zC (fun3 k n b) k:=fun vs h e=>Ab e
def NF {f:F3} {t:A3} {k:Nat} (hf:zC f k) (h:zh κ E (eCall f t) σ H Q):EF (zx κ k f) [] E (zN κ E t) σ H Q:=by
 obtain⟨F,rel,o⟩:=h
 refine (yh (K:=kA κ) zH rel o).mono fun vs H1 ⟨β1,h1,fs,e1,⟨r1,rf1⟩,o1⟩=>?_
 cases q:vals3 fs with
 |none=>simp only[q]at o1;exact o1.elim
 |some xs=>
  simp only[q]at o1;have hr:=DT rf1 q;rw[B1]
  refine⟨F.O,β1,xs,h1,?_,r1.heap,hr,FOut.of r1 o1⟩
  refine Classical.byContradiction fun n=>?_
  rw[hf xs h1 (by rw[hr.length];exact n)]at o1
  exact o1
def DW {x:Str} {es:List Expr} {f:F3} {t:A3} {k:Nat} {fa:Addr} {fd:FuncData} {ps:List Str} {n:Nat} (hf:zC f n) (Fk:FnOk X.prog X.w X.K X.mg X.base (XT X.prog X.w) k fa fd ps (zx κ n f)) (hr:Room k X.A) (hg:Gl X x) (hm:X.mg x=some (.ref fa)) (hk:PySem.W.keepIn X.K (.ref fa)=true) (hb:Binds X.K fd ps []) (hx:DQ (XT X.prog X.w) X E)
 (ha:PA X (e::es) (zN κ E t)) (hdb:(x==("__debug__" :Str))=false:=by decide) (he:SE X e es:=by rfl) (hpl:BA X pos es:=by rfl):
 PE X (.Call (.Name x np) (e::es) [] pos) (zh κ E (eCall f t)):=yL (Me Fk hr hg hm hk hb .nil hx ha hdb he hpl) fun _ _ _ h=>NF hf h
end
section
variable {X:Cx} {κ:Kx} {E:XK} {F:Fr} {σ:L2.St} {H H':Hp} {Q:VK} {p:Addr} {pos:Pos} {i:Nat}
def oI (g:Int->Int->Option V3):F2:=fun _ _ x y=>match x,y with
 |.x (.int i),.x (.int j)=>(g i j).map .v
 |_,_=>none
def Jk {g:Int->Int->Option V3} {s:S3} {h:H3} {x y:Rf} {z:Vl} (e:oI g s h x y=some z):∃i j w,x=.x (.int i)/\y=.x (.int j)/\g i j=some w/\z=.v w:=by
 unfold oI at e
 split at e
 .rename_i i j
  cases q:g i j with
  |none=>rw[q]at e;cases e
  |some w=>rw[q]at e;cases e;exact⟨i,j,w,rfl,rfl,q,rfl⟩
 .cases e
def ET {gv:Int->Int->V} {g:Int->Int->Option V3} (hg:∀i j z,g i j=some z->∀β O H,Rep κ β O H z (gv i j)):OpSim κ (qz gv) (oI g):=fun F σ H x y z v w Q rel rx ry e k=>by
 obtain⟨i,j,u,rfl,rfl,q,rfl⟩:=Jk e;cases (show Rep κ F.β F.O H (.int i) v from rx)
 cases (show Rep κ F.β F.O H (.int j) w from ry)
 exact⟨i,j,rfl,rfl,k _ H Ext.refl ⟨rel,hg i j u q _ _ _⟩⟩
def FS {C:Int->Int->Prop} {gv:Int->Int->V} {g:Int->Int->Option V3} (hg:∀i j z,g i j=some z->C i j/\∀β O H,Rep κ β O H z (gv i j)):OpSim κ (rI C gv) (oI g):=fun F σ H x y z v w Q rel rx ry e k=>by
 obtain⟨i,j,u,rfl,rfl,q,rfl⟩:=Jk e;cases (show Rep κ F.β F.O H (.int i) v from rx)
 cases (show Rep κ F.β F.O H (.int j) w from ry)
 exact⟨i,j,rfl,rfl,(hg i j u q).1,k _ H Ext.refl ⟨rel,(hg i j u q).2 _ _ _⟩⟩
instance {i j:Int}:Decidable (CMul i j):=inferInstanceAs (Decidable (_\/_))
instance {i j:Int}:Decidable (CDiv i j):=inferInstanceAs (Decidable (_/\_))
instance {i j:Int}:Decidable (CPow i j):=inferInstanceAs (Decidable (_/\_))
def DX:F2:=oI fun i j=>some (.int (i+j))
def oSub:F2:=oI fun i j=>some (.int (i-j))
def GS:F2:=oI fun i j=>if CMul i j then some (.int (i*j)) else none
def zB:F2:=oI fun i j=>if CDiv i j then some (.int (i / j)) else none
def zj:F2:=oI fun i j=>if 0<j then some (.int (i%j)) else none
def yH:F2:=oI fun i j=>if CPow i j then some (.int (i ^ j.toNat)) else none
def oShr:F2:=oI fun i j=>if 0<=j then some (.int (i / 2 ^ j.toNat)) else none
def NG:F2:=oI fun i j=>some (.int (Builtin.bitAnd i j))
def oLt:F2:=oI fun i j=>some (.bl (decide (i<j)))
def oLe:F2:=oI fun i j=>some (.bl (decide (i<=j)))
def jr:F2:=oI fun i j=>some (.bl (decide (j<i)))
def oGe:F2:=oI fun i j=>some (.bl (decide (j<=i)))
def sim_addI:OpSim κ (qz fun i j=>.int (i+j)) DX:=ET fun i j z e=>by cases e;exact fun _ _ _=>.int _
def NH:OpSim κ (qz fun i j=>.int (i-j)) oSub:=ET fun i j z e=>by cases e;exact fun _ _ _=>.int _
def FT:OpSim κ (qz fun i j=>.bl (decide (i<j))) oLt:=ET fun i j z e=>by cases e;exact fun _ _ _=>.bl _
def EU:OpSim κ (qz fun i j=>.bl (decide (i<=j))) oLe:=ET fun i j z e=>by cases e;exact fun _ _ _=>.bl _
def DY:OpSim κ (qz fun i j=>.bl (decide (j<i))) jr:=ET fun i j z e=>by cases e;exact fun _ _ _=>.bl _
def qK {c:Prop} [Decidable c] {α:Type} {x z:α} (e:(if c then some x else none)=some z):c/\x=z:=by
 by_cases h:c
 .rw[Aa h]at e;exact⟨h,Option.some.inj e⟩
 .rw[Ab h]at e;cases e
def sim_mulI:OpSim κ (rI CMul fun i j=>.int (i*j)) GS:=FS fun i j z e=>by obtain⟨h,rfl⟩:=qK e;exact⟨h,fun _ _ _=>.int _⟩
def qO:OpSim κ (rI CDiv fun i j=>.int (i / j)) zB:=FS fun i j z e=>by obtain⟨h,rfl⟩:=qK e;exact⟨h,fun _ _ _=>.int _⟩
def yp:OpSim κ (rI (fun _ j=>0<j) fun i j=>.int (i%j)) zj:=FS fun i j z e=>by obtain⟨h,rfl⟩:=qK e;exact⟨h,fun _ _ _=>.int _⟩
def EV:OpSim κ (rI CPow fun i j=>.int (i ^ j.toNat)) yH:=FS fun i j z e=>by obtain⟨h,rfl⟩:=qK e;exact⟨h,fun _ _ _=>.int _⟩
def qs (f g:F2):F2:=fun s h x y=>match f s h x y with
 |some z=>some z
 |none=>g s h x y
def OpSim.or {r r':R2} {f g:F2} (hf:OpSim κ r f) (hg:OpSim κ r' g):OpSim κ (fun x y H Q=>r x y H Q\/r' x y H Q) (qs f g):=fun F σ H x y z v w Q rel rx ry e k=>by
 unfold qs at e;cases q:f F.s F.h x y with
 |some u=>rw[q]at e;cases e;exact .inl (hf F σ H x y _ v w Q rel rx ry q k)
 |none=>rw[q]at e;exact .inr (hg F σ H x y z v w Q rel rx ry e k)
def DZ:F2:=fun _ _ x y=>match x,y with
 |.x (.str i),.x (.str j)=>if i.length+j.length<=sizeLine then some (.v (.str (i++j))) else none
 |_,_=>none
def sim_addS:OpSim κ (fun x y H Q=> ∃i j,x=.str i/\y=.str j/\i.length+j.length<=sizeLine/\Q (.str (i++j)) H) DZ:=fun F σ H x y z v w Q rel rx ry e k=>by
 unfold DZ at e
 split at e
 .rename_i i j
  obtain⟨h,rfl⟩:=qK e;cases (show Rep κ F.β F.O H (.str i) v from rx)
  cases (show Rep κ F.β F.O H (.str j) w from ry)
  exact⟨i,j,rfl,rfl,h,k _ H Ext.refl ⟨rel,.str _⟩⟩
 .cases e
def rdm (s:S3) (h:H3):Rf->Option (List V3)
 |.x (.scr _)=>none
 |f=>rdl s h f
def CN {f:Rf} {v:V} {xs:List V3} (rel:Rel κ F σ H) (r:RfR κ F H f v) (e:rdm F.s F.h f=some xs):∃a ys,v=.ref a/\H a=some (.lst ys)/\Reps κ F.β F.O H xs ys:=by
 cases f with
 |s i=>
  have e:rdl F.s F.h (.s i)=some xs:=e;obtain⟨a,c,h1,h2,h3,h4⟩:=r;simp only[rdl,h3]at e;cases c<;>simp at e
  subst e;obtain⟨ys,h5,h6⟩:=h4;exact⟨a,ys,h2,h5,h6⟩
 |x y=>
  cases y<;>simp[rdm,rdl]at e
  case lst zs=>
   subst e;cases r with
   |lst h1 h2 h3 h4=>exact⟨_,_,rfl,h1,h4⟩
  case loc n=>
   cases r with
   |loc h1 h2=>
    cases q:F.h[n]? with
    |none=>rw[q]at e;cases e
    |some c=>
     rw[q]at e;cases c<;>simp at e
     subst e
     rcases rel.heap.cell n _ q with z|⟨a,ha,ys,h5,h6⟩
     .cases z
     .exact⟨a,ys,h2 a ha,h5,h6⟩
def oCat:F2:=fun s h x y=>match rdm s h x,rdm s h y with
 |some xs,some ys=>if xs.length+ys.length<=sizeLine then some (.m (.lst (xs++ys))) else none
 |_,_=>none
def NI:OpSim κ rCat oCat:=fun F σ H x y z v w Q rel rx ry e k=>by
 unfold oCat at e;cases q1:rdm F.s F.h x with
 |none=>rw[q1]at e;cases e
 |some xs=>
  cases q2:rdm F.s F.h y with
  |none=>rw[q1,q2]at e;cases e
  |some ys=>
   rw[q1,q2]at e;obtain⟨h,rfl⟩:=qK e;obtain⟨a,us,rfl,ha,ra⟩:=CN rel rx q1;obtain⟨b,ws,rfl,hb,rb⟩:=CN rel ry q2;exact⟨a,b,us,ws,rfl,rfl,ha,hb,by rw[<-ra.length,<-rb.length];exact h,fun p hp=>k _ _ (yN hp) (Post.lst rel hp (ra.append rb))⟩
def zf:F2:=qs DX (qs DZ oCat)
def ya:OpR X (binaryOp .Add) (fun x y H Q=>(qz fun i j=>.int (i+j)) x y H Q\/((fun x y H Q=> ∃i j,x=.str i/\y=.str j/\i.length+j.length<=sizeLine/\Q (.str (i++j)) H) x y H Q\/rCat x y H Q)):=op_add.or (op_add_str.or M1)
def zY:OpSim κ (fun x y H Q=>(qz fun i j=>.int (i+j)) x y H Q\/((fun x y H Q=> ∃i j,x=.str i/\y=.str j/\i.length+j.length<=sizeLine/\Q (.str (i++j)) H) x y H Q\/rCat x y H Q)) zf:=sim_addI.or (sim_addS.or NI)
def oRep:F2:=fun s h x y=>match rdm s h x,y with
 |some xs,.x (.int k)=>if -(2 ^ 63)<=k/\k<2 ^ 63/\xs.length*k.toNat<=sizeLine then some (.m (.lst (List.replicate k.toNat xs).flatten)) else none
 |_,_=>none
def NJ:OpSim κ rRep oRep:=fun F σ H x y z v w Q rel rx ry e k=>by
 unfold oRep at e
 split at e
 .rename_i xs n q
  obtain⟨⟨h1,h2,h3⟩,rfl⟩:=qK e;obtain⟨a,us,rfl,ha,ra⟩:=CN rel rx q;cases (show Rep κ F.β F.O H (.int n) w from ry)
  exact⟨a,n,us,rfl,rfl,ha,h1,h2,by rw[<-ra.length];exact h3,fun p hp=>k _ _ (yN hp) (Post.lst rel hp (ra.rep _))⟩
 .cases e
def yt:F2:=qs GS oRep
def BK:OpR X (binaryOp .Mult) (fun x y H Q=>(rI CMul fun i j=>.int (i*j)) x y H Q\/rRep x y H Q):=op_mul.or M4
def BL:OpSim κ (fun x y H Q=>(rI CMul fun i j=>.int (i*j)) x y H Q\/rRep x y H Q) yt:=sim_mulI.or NJ
theorem Reps.atI {xs:List V3} {ys:List V} {i:Int} {x:V3} (r:Reps κ F.β F.O H xs ys) (e:atI xs i=some x):∃y,L2.atI ys i=some y/\Rep κ F.β F.O H x y:=by
 unfold L2.atI at e ⊢;rw[<-r.length];cases q:qE xs.length i with
 |none=>rw[q]at e;cases e
 |some j=>
  rw[q]at e;exact r.get e
def oIxL:F2:=fun s h x y=>match y with
 |.x (.int i)=>match rdl s h x with
  |some xs=>(atI xs i).map .v
  |none=>none
 |_=>none
def oIxT:F2:=fun _ _ x y=>match x,y with
 |.x (.tup xs),.x (.int i)=>(atI xs i).map .v
 |_,_=>none
def oIxS:F2:=fun _ _ x y=>match x,y with
 |.x (.str z),.x (.int i)=>if z.length<=sizeLine then (atI z.cps.toList i).map fun c=>.v (.str ⟨#[c]⟩) else none
 |_,_=>none
def sim_ixL:OpSim κ (rIxL κ.K) oIxL:=fun F σ H x y z v w Q rel rx ry e k=>by
 unfold oIxL at e
 split at e
 .rename_i i
  cases (show Rep κ F.β F.O H (.int i) w from ry)
  cases q:rdl F.s F.h x with
  |none=>rw[q]at e;cases e
  |some xs=>
   rw[q]at e;cases q2:atI xs i with
   |none=>simp only[q2]at e;cases e
   |some u=>
    simp only[q2]at e;cases e;obtain⟨a,us,rfl,sq,ra⟩:=CK rel rx q;obtain⟨y,hy,ry'⟩:=Reps.atI ra q2;exact⟨a,us,i,y,rfl,rfl,sq,hy,k _ H Ext.refl ⟨rel,ry'⟩⟩
 .cases e
def sim_ixT:OpSim κ (rIxT κ.K) oIxT:=fun F σ H x y z v w Q rel rx ry e k=>by
 unfold oIxT at e
 split at e
 .rename_i xs i
  cases (show Rep κ F.β F.O H (.int i) w from ry)
  cases q2:atI xs i with
  |none=>rw[q2]at e;cases e
  |some u=>
   rw[q2]at e;cases e;cases (show Rep κ F.β F.O H (.tup xs) v from rx) with
   |tup h1 h2 h3 h4=>
    obtain⟨y,hy,ry'⟩:=Reps.atI h4 q2;exact⟨_,_,i,y,rfl,rfl,.of h1,hy,k _ H Ext.refl ⟨rel,ry'⟩⟩
 .cases e
def NK:OpSim κ rIxS oIxS:=fun F σ H x y z v w Q rel rx ry e k=>by
 unfold oIxS at e
 split at e
 .rename_i zz i
  cases (show Rep κ F.β F.O H (.int i) w from ry)
  cases (show Rep κ F.β F.O H (.str zz) v from rx)
  obtain⟨h,e⟩:zz.length<=sizeLine/\((atI zz.cps.toList i).map fun c=>Vl.v (.str ⟨#[c]⟩))=some z:=by
   by_cases h:zz.length<=sizeLine
   .rw[Aa h]at e;exact⟨h,e⟩
   .rw[Ab h]at e;cases e
  cases q2:atI zz.cps.toList i with
  |none=>rw[q2]at e;cases e
  |some c=>
   rw[q2]at e;cases e;exact⟨zz,i,c,rfl,rfl,h,q2,k _ H Ext.refl ⟨rel,.str _⟩⟩
 .cases e
def zJ:F2:=qs oIxT (qs oIxL oIxS)
def Jl (hK:X.K=κ.K):IxR X (fun x y H Q=>rIxT κ.K x y H Q\/(fun x y H Q=>rIxL κ.K x y H Q\/rIxS x y H Q) x y H Q):=by
 rw[<-hK];exact ix_tup.or (ix_list.or Mu)
def Jm:OpSim κ (fun x y H Q=>rIxT κ.K x y H Q\/(fun x y H Q=>rIxL κ.K x y H Q\/rIxS x y H Q) x y H Q) zJ:=sim_ixT.or (sim_ixL.or NK)
def oIsN (neg:Bool):F2:=fun _ _ x y=>match x,y with
 |.x .non,.x .non=>some (.v (.bl (!neg)))
 |.x (.loc _),_=>none
 |.x _,.x .non=>some (.v (.bl neg))
 |.s _,.x .non=>some (.v (.bl neg))
 |_,_=>none
def NL {x:V3} {v:V} (r:Rep κ F.β F.O H x v) (h:x≠ .non) (h2:∀n,x≠ .loc n):v≠ .non:=by
 cases r<;>first|(intro z;cases z;done)|(exact absurd rfl h)|(exact absurd rfl (h2 _))
def NM {neg:Bool} {s:S3} {h:H3} {x y:Rf} {z:Vl} {v w:V} (e:oIsN neg s h x y=some z) (rx:RfR κ F H x v) (ry:RfR κ F H y w):w=.non/\z=.v (.bl (if neg then !decide (v=.non) else decide (v=.non))):=by
 unfold oIsN at e
 split at e
 .cases e
  cases (show Rep κ F.β F.O H .non v from rx)
  cases (show Rep κ F.β F.O H .non w from ry)
  exact⟨rfl,by cases neg<;>simp⟩
 .cases e
 .rename_i x h1 h2
  cases e;cases (show Rep κ F.β F.O H .non w from ry)
  have hv:v≠ .non:=NL (show Rep κ F.β F.O H x v from rx) (fun z=>by subst z;exact h1 rfl) (fun n z=>by subst z;exact h2 n rfl)
  exact⟨rfl,by cases neg<;>simp[hv]⟩
 .cases e
  cases (show Rep κ F.β F.O H .non w from ry)
  obtain⟨a,c,_,h2,_⟩:=rx;have hv:v≠ .non:=by rw[h2];intro z;cases z
  exact⟨rfl,by cases neg<;>simp[hv]⟩
 .cases e
def Jn:OpSim κ (fun x y H Q=>y=.non/\Q (.bl (decide (x=.non))) H) (oIsN false):=fun F σ H x y z v w Q rel rx ry e k=>by
 obtain⟨h1,rfl⟩:=NM e rx ry;exact⟨h1,k _ H Ext.refl ⟨rel,.bl _⟩⟩
end
inductive K3 where
 |f (a:V)|l (xs:List V3)|t (xs:List V3)|o
def qj (h:H3):V3->K3
 |.non=>.f .non
 |.bl b=>.f (.bl b)
 |.int i=>.f (.int i)
 |.str x=>.f (.str x)
 |.lst xs=>.l xs
 |.tup xs=>.t xs
 |.loc n=>match h[n]? with
  |some (.lst xs)=>.l xs
  |_=>.o
 |_=>.o
def qc (f:V3->V3->Option Bool):List V3->List V3->Option Bool
 |x::xs,y::ys=>match f x y,qc f xs ys with
  |some a,some b=>some (a && b)
  |_,_=>none
 |_,_=>some true
def yv (h:H3):Nat->V3->V3->Option Bool
 |0,x,y=>match qj h x,qj h y with
  |.f a,.f b=>some (eqV a b)
  |_,_=>none
 |n+1,x,y=>match qj h x,qj h y with
  |.f a,.f b=>some (eqV a b)
  |.l xs,.l ys=>if xs.length=ys.length then qc (yv h n) xs ys else some false
  |.t xs,.t ys=>(qc (yv h n) xs ys).map (· && xs.length==ys.length)
  |.o,_=>none
  |_,.o=>none
  |_,_=>some false
section
variable {X:Cx} {κ:Kx} {E:XK} {F:Fr} {σ:L2.St} {H H':Hp} {Q:VK} {p:Addr} {pos:Pos} {i:Nat}
theorem Ea {f:V3->V3->Option Bool}:∀{xs ys:List V3} {b:Bool},qc f xs ys=some b->(∀(j:Nat) (x y:V3),xs[j]? =some x->ys[j]? =some y->∃c,f x y=some c)/\b=(List.range (min xs.length ys.length)).all fun j=>((xs[j]?).bind fun x=>(ys[j]?).bind fun y=>f x y).getD false
 | [],ys,b,e=>by
  unfold qc at e;cases e;exact⟨fun j x y h=>by simp at h,by simp⟩
 |x::xs,[],b,e=>by
  unfold qc at e;cases e;exact⟨fun j x y _ h=>by simp at h,by simp⟩
 |x::xs,y::ys,b,e=>by
  unfold qc at e;cases q1:f x y with
  |none=>simp only[q1]at e;cases e
  |some a=>
   cases q2:qc f xs ys with
   |none=>simp only[q1,q2]at e;cases e
   |some c=>
    simp only[q1,q2]at e;cases e;obtain⟨h1,h2⟩:=Ea q2
    refine⟨fun j x' y' hx hy=>?_,?_⟩
    .cases j with
     |zero=>simp at hx hy;subst hx;subst hy;exact⟨a,q1⟩
     |succ j=>exact h1 j x' y' (by simpa using hx) (by simpa using hy)
    .rw[A9,A9,Nat.add_min_add_right,List.range_succ_eq_map,List.all_cons,List.all_map]
     simp only[Dn,Do,q1,Option.getD_some,h2,Function.comp_def,Dp]
def BM {x:V3} {v:V} (rel:RelH κ F.O F.β F.h H) (r:Rep κ F.β F.O H x v):match qj F.h x with
  |.f a=>v=a/\CI a=true
  |.l xs=> ∃a ys,v=.ref a/\H a=some (.lst ys)/\Reps κ F.β F.O H xs ys
  |.t xs=> ∃a ys,v=.ref a/\H a=some (.tup ys)/\Reps κ F.β F.O H xs ys
  |.o=>True:=by
 cases r with
 |lst h1 h2 h3 h4=>exact⟨_,_,rfl,h1,h4⟩
 |tup h1 h2 h3 h4=>exact⟨_,_,rfl,h1,h4⟩
 | @loc n v h1 h2=>
  simp only[qj];cases q:F.h[n]? with
  |none=>trivial
  |some c=>
   cases c with
   |lst xs=>
    rcases rel.cell n _ q with z|⟨a,ha,ys,h5,h6⟩
    .cases z
    .exact⟨a,ys,h2 a ha,h5,h6⟩
   |_=>trivial
 |_=>first|exact⟨rfl,rfl⟩|trivial
def Vals.at {ys:List V} {us:List Value} {j:Nat} {y:V} (r:Vals ys us) (h:j<us.toArray.size) (e:ys[j]? =some y):RelV y us.toArray[j]:=by
 obtain⟨u,h1,h2⟩:=r.get e;have:=(As.mp h1).2;have e1:us.toArray[j]=u:=by simpa using this
 rw[e1];exact h2
def Jo {n:Nat} (ih:∀{x y:V3} {v:V} {b:Bool},Rep κ F.β F.O H x v->Rep κ F.β F.O H y v->yv F.h n x y=some b->b=true):∀{xs ys:List V3} {vs:List V} {b:Bool},Reps κ F.β F.O H xs vs->Reps κ F.β F.O H ys vs->qc (yv F.h n) xs ys=some b->b=true:=by
 intro xs
 induction xs with
 |nil=>intro ys vs b _ _ e;unfold qc at e;cases e;rfl
 |cons x xs ihx=>
  intro ys vs b r1 r2 e;cases r1 with
  |cons a1 t1=>
   cases r2 with
   | @cons y _ ys _ a2 t2=>
    unfold qc at e;cases q1:yv F.h n x y with
    |none=>simp only[q1]at e;cases e
    |some a=>
     cases q2:qc (yv F.h n) xs ys with
     |none=>simp only[q1,q2]at e;cases e
     |some c=>
      simp only[q1,q2]at e;cases e;rw[ih a1 a2 q1,ihx t1 t2 q2];rfl
def Jp {a:V} (h:CI a=true):eqV a a=true:=by cases a<;>simp[CI]at h<;>simp[eqV]
theorem GT (rel:RelH κ F.O F.β F.h H):∀(n:Nat) {x y:V3} {v:V} {b:Bool},Rep κ F.β F.O H x v->Rep κ F.β F.O H y v->yv F.h n x y=some b->b=true
 |0,x,y,v,b,rx,ry,e=>by
  have kx:=BM rel rx;have ky:=BM rel ry;unfold yv at e;cases h1:qj F.h x<;>cases h2:qj F.h y<;>simp only[h1,h2]at e kx ky<;>try cases e
  obtain⟨e1,e2⟩:=kx;obtain⟨e3,_⟩:=ky;rw[<-e1,<-e3];rw[<-e1]at e2;exact Jp e2
 |n+1,x,y,v,b,rx,ry,e=>by
  have kx:=BM rel rx;have ky:=BM rel ry;unfold yv at e;cases h1:qj F.h x<;>cases h2:qj F.h y<;>simp only[h1,h2]at e kx ky<;>try cases e
  case f.f=>
   obtain⟨e1,e2⟩:=kx;obtain⟨e3,_⟩:=ky;rw[<-e1,<-e3];rw[<-e1]at e2;exact Jp e2
  case f.l=>obtain⟨e1,e2⟩:=kx;obtain⟨a,ys,e3,_⟩:=ky;rw[<-e1,e3]at e2;cases e2
  case f.t=>obtain⟨e1,e2⟩:=kx;obtain⟨a,ys,e3,_⟩:=ky;rw[<-e1,e3]at e2;cases e2
  case l.f=>obtain⟨e1,e2⟩:=ky;obtain⟨a,ys,e3,_⟩:=kx;rw[<-e1,e3]at e2;cases e2
  case t.f=>obtain⟨e1,e2⟩:=ky;obtain⟨a,ys,e3,_⟩:=kx;rw[<-e1,e3]at e2;cases e2
  case l.t=>obtain⟨a,ys,e3,h5,_⟩:=kx;obtain⟨a',ys',e4,h6,_⟩:=ky;rw[e3]at e4;cases e4;rw[h5]at h6;cases h6
  case t.l=>obtain⟨a,ys,e3,h5,_⟩:=kx;obtain⟨a',ys',e4,h6,_⟩:=ky;rw[e3]at e4;cases e4;rw[h5]at h6;cases h6
  case l.l xs ys=>
   obtain⟨a,us,e3,h5,r5⟩:=kx;obtain⟨a',us',e4,h6,r6⟩:=ky;rw[e3]at e4;cases e4;rw[h5]at h6;cases h6;rw[Aa (by rw[r5.length,r6.length])]at e
   exact Jo (fun a b c=>GT rel n a b c) r5 r6 e
  case t.t xs ys=>
   obtain⟨a,us,e3,h5,r5⟩:=kx;obtain⟨a',us',e4,h6,r6⟩:=ky;rw[e3]at e4;cases e4;rw[h5]at h6;cases h6;cases q:qc (yv F.h n) xs ys with
   |none=>rw[q]at e;cases e
   |some c=>
    rw[q]at e;cases e;rw[Jo (fun a b c=>GT rel n a b c) r5 r6 q,r5.length,r6.length]
    simp
def Jq {s:Shared} {a c:V} {v u:Value} {A:Around} (r1:RelV a v) (r2:RelV c u) (f1:CI a=true) (f2:CI c=true):SeqAt.RcAt A s v u (eqV a c)/\SeqAt.RcNeAt A s v u (!eqV a c):=by
 cases a with
 |non=>
  cases r1;cases c with
  |non=>cases r2;exact⟨.none_none,.none_none⟩
  |bl c=>cases r2;exact⟨.none_bool _,.none_bool _⟩
  |int c=>obtain⟨tr2,rfl⟩:=r2;exact⟨.none_int _ _,.none_int _ _⟩
  |str c=>obtain⟨tr2,rfl⟩:=r2;exact⟨.none_str _ _,.none_str _ _⟩
  |_=>exact absurd (show false=true from f2) Ao
 |bl a=>
  cases r1;cases c with
  |non=>cases r2;exact⟨.bool_none _,.bool_none _⟩
  |bl c=>cases r2;exact⟨.bool_bool _ _,.bool_bool _ _⟩
  |int c=>obtain⟨tr2,rfl⟩:=r2;exact⟨.bool_int _ _ _,.bool_int _ _ _⟩
  |str c=>obtain⟨tr2,rfl⟩:=r2;exact⟨.bool_str _ _ _,.bool_str _ _ _⟩
  |_=>exact absurd (show false=true from f2) Ao
 |int a=>
  obtain⟨tr1,rfl⟩:=r1;cases c with
  |non=>cases r2;exact⟨.int_none _ _,.int_none _ _⟩
  |bl c=>cases r2;exact⟨.int_bool _ _ _,.int_bool _ _ _⟩
  |int c=>obtain⟨tr2,rfl⟩:=r2;exact⟨.int_int _ _ _ _,.int_int _ _ _ _⟩
  |str c=>obtain⟨tr2,rfl⟩:=r2;exact⟨.int_str _ _ _ _,.int_str _ _ _ _⟩
  |_=>exact absurd (show false=true from f2) Ao
 |str a=>
  obtain⟨tr1,rfl⟩:=r1;cases c with
  |non=>cases r2;exact⟨.str_none _ _,.str_none _ _⟩
  |bl c=>cases r2;exact⟨.str_bool _ _ _,.str_bool _ _ _⟩
  |int c=>obtain⟨tr2,rfl⟩:=r2;exact⟨.str_int _ _ _ _,.str_int _ _ _ _⟩
  |str c=>obtain⟨tr2,rfl⟩:=r2;exact⟨.str_str _ _ _ _,.str_str _ _ _ _⟩
  |_=>exact absurd (show false=true from f2) Ao
 |_=>exact absurd (show false=true from f1) Ao
def ans (h:H3) (n:Nat) (xs ys:List V3) (j:Nat):Bool:=((xs[j]?).bind fun x=>(ys[j]?).bind fun y=>yv h n x y).getD false
def Jr (rel:RelH κ F.O F.β F.h H):∀(n:Nat) {pins:AL} {s:Shared} {x y:V3} {v' u':V} {v u:Value} {b:Bool} {A:Around},Inv X pins σ H s->Rep κ F.β F.O H x v'->Rep κ F.β F.O H y u'->RelV v' v->RelV u' u->yv F.h n x y=some b->A.units+n<cLine->
  (SeqAt.RcAt A s v u b/\SeqAt.RcNeAt A s v u (!b))/\SeqAt.EqAt A s v u b:=by
 intro n
 induction n with
 |zero=>
  intro pins s x y v' u' v u b A I rx ry rv ru e hu;have kx:=BM rel rx;have ky:=BM rel ry;unfold yv at e;cases h1:qj F.h x<;>cases h2:qj F.h y<;>simp only[h1,h2]at e kx ky<;>try cases e
  obtain⟨e1,e2⟩:=kx;obtain⟨e3,e4⟩:=ky;subst e1;subst e3;exact⟨Jq rv ru e2 e4,IF rv ru e2 e4⟩
 |succ n ih=>
  intro pins s x y v' u' v u b A I rx ry rv ru e hu;have kx:=BM rel rx;have ky:=BM rel ry;have e0:=e;unfold yv at e;have items:∀{xs ys:List V3} {us ws:List V} {vs zs:List Value} {c:Bool},Reps κ F.β F.O H xs us->Reps κ F.β F.O H ys ws->Vals us vs->Vals ws zs->qc (yv F.h n) xs ys=some c->∀j (h1:j<vs.toArray.size) (h2:j<zs.toArray.size),SeqAt.EqAt A.in1 s vs.toArray[j] zs.toArray[j] (ans F.h n xs ys j):=by
   intro xs ys us ws vs zs c r1 r2 v1 v2 q j h1 h2;have l1:=r1.length;have l2:=r2.length;have l3:=v1.length;have l4:=v2.length;have h1':j<xs.length:=by rw[l1,l3];simpa using h1
   have h2':j<ys.length:=by rw[l2,l4];simpa using h2
   obtain⟨y1,hy1,ry1⟩:=r1.get (yq h1');obtain⟨y2,hy2,ry2⟩:=r2.get (yq h2');obtain⟨d,hd⟩:=(Ea q).1 j _ _ (yq h1') (yq h2');have ea:ans F.h n xs ys j=d:=by unfold ans;rw[yq h1',yq h2'];simp[hd]
   rw[ea];exact (ih I ry1 ry2 (Vals.at v1 h1 hy1) (Vals.at v2 h2 hy2) hd (by show A.units+1+n<cLine;lia)).2
  have wrap:∀{a a':Addr},v'=.ref a->u'=.ref a'->(SeqAt.RcAt A s v u b/\SeqAt.RcNeAt A s v u (!b))->(SeqAt.RcAt A s v u b/\SeqAt.RcNeAt A s v u (!b))/\SeqAt.EqAt A s v u b:=by
   intro a a' ea ea' h
   refine⟨h,?_⟩
   subst ea;subst ea';cases rv;cases ru
   by_cases z:a=a'
   .subst z
    rw[GT rel (n+1) rx ry e0];exact SeqAt.EqAt.same _
   .exact SeqAt.EqAt.of_refs z h.1
  cases h1:qj F.h x<;>cases h2:qj F.h y<;>simp only[h1,h2]at e kx ky<;>try cases e
  case succ.f.f.refl=>
   obtain⟨e1,e2⟩:=kx;obtain⟨e3,e4⟩:=ky;subst e1;subst e3;exact⟨Jq rv ru e2 e4,IF rv ru e2 e4⟩
  case succ.l.l xs ys=>
   obtain⟨a,us,rfl,h5,r5⟩:=kx;obtain⟨a',us',rfl,h6,r6⟩:=ky
   refine wrap rfl rfl ?_
   cases rv;cases ru;obtain⟨vs,rv,pl,_⟩:=I.list (SqL.of (K:=X.K) h5);obtain⟨zs,rz,pz,_⟩:=I.list (SqL.of (K:=X.K) h6);have l1:=r5.length;have l2:=r6.length;have l3:=rv.length;have l4:=rz.length
   by_cases hl:xs.length=ys.length
   .rw[Aa hl]at e
    have hsz:vs.toArray.size=zs.toArray.size:=by rw[Ak,Ak];lia
    have eb:b=(List.range vs.toArray.size).all (ans F.h n xs ys):=by
     rw[(Ea e).2,<-hl,Nat.min_self,Ak,<-l3,<-l1];rfl
    rw[eb];exact⟨.lists pl.isList pz.isList hsz (by lia) (items r5 r6 rv rz e),.lists pl.isList pz.isList hsz (by lia) (items r5 r6 rv rz e)⟩
   .rw[Ab hl]at e;cases e
    have hsz:(vs.toArray.size !=zs.toArray.size)=true:=by rw[Ak,Ak];simp;lia
    exact⟨.lists_lengths pl.isList pz.isList hsz (by lia),.lists_lengths pl.isList pz.isList hsz (by lia)⟩
  case succ.t.t xs ys=>
   obtain⟨a,us,rfl,h5,r5⟩:=kx;obtain⟨a',us',rfl,h6,r6⟩:=ky
   refine wrap rfl rfl ?_
   cases rv;cases ru;obtain⟨vs,rv,pl,_⟩:=I.tuple (SqT.of (K:=X.K) h5);obtain⟨zs,rz,pz,_⟩:=I.tuple (SqT.of (K:=X.K) h6);have l1:=r5.length;have l2:=r6.length;have l3:=rv.length;have l4:=rz.length;cases q:qc (yv F.h n) xs ys with
   |none=>rw[q]at e;cases e
   |some c=>
    rw[q]at e;have eb:b=((List.range (min vs.toArray.size zs.toArray.size)).all (ans F.h n xs ys) && vs.toArray.size==zs.toArray.size):=by
     cases e;rw[(Ea q).2,Ak,Ak,<-l3,<-l4,<-l1,<-l2];rfl
    rw[eb];exact⟨.tuples (show s.heap.IsTuple a vs.toArray from pl) (show s.heap.IsTuple a' zs.toArray from pz) (by lia) (items r5 r6 rv rz q),.tuples (show s.heap.IsTuple a vs.toArray from pl) (show s.heap.IsTuple a' zs.toArray from pz) (by lia) (items r5 r6 rv rz q)⟩
  case succ.l.t.refl xs ys=>
   obtain⟨a,us,rfl,h5,r5⟩:=kx;obtain⟨a',us',rfl,h6,r6⟩:=ky
   refine wrap rfl rfl ?_
   cases rv;cases ru;obtain⟨vs,rv,pl,_⟩:=I.list (SqL.of (K:=X.K) h5);obtain⟨zs,rz,pz,_⟩:=I.tuple (SqT.of (K:=X.K) h6);exact⟨.list_tuple pl.isList (show s.heap.IsTuple a' zs.toArray from pz) (by lia),.list_tuple pl.isList (show s.heap.IsTuple a' zs.toArray from pz) (by lia)⟩
  case succ.t.l.refl xs ys=>
   obtain⟨a,us,rfl,h5,r5⟩:=kx;obtain⟨a',us',rfl,h6,r6⟩:=ky
   refine wrap rfl rfl ?_
   cases rv;cases ru;obtain⟨vs,rv,pl,_⟩:=I.tuple (SqT.of (K:=X.K) h5);obtain⟨zs,rz,pz,_⟩:=I.list (SqL.of (K:=X.K) h6);exact⟨.tuple_list (show s.heap.IsTuple a vs.toArray from pl) pz.isList (by lia),.tuple_list (show s.heap.IsTuple a vs.toArray from pl) pz.isList (by lia)⟩
  case succ.l.f.refl xs a0=>
   obtain⟨a,us,rfl,h5,r5⟩:=kx;obtain⟨e3,e4⟩:=ky;subst e3;cases rv;obtain⟨vs,rv,pl,_⟩:=I.list (SqL.of (K:=X.K) h5);have hu':A.units<cLine:=by lia
   cases u' with
   |non=>cases ru;exact⟨⟨.list_none pl.isList hu',.list_none pl.isList hu'⟩,.list_none pl.isList hu'⟩
   |bl b=>cases ru;exact⟨⟨.list_bool b pl.isList hu',.list_bool b pl.isList hu'⟩,.list_bool b pl.isList hu'⟩
   |int b=>obtain⟨t,rfl⟩:=ru;exact⟨⟨.list_int b t pl.isList hu',.list_int b t pl.isList hu'⟩,.list_int b t pl.isList hu'⟩
   |str b=>obtain⟨t,rfl⟩:=ru;exact⟨⟨.list_str b t pl.isList hu',.list_str b t pl.isList hu'⟩,.list_str b t pl.isList hu'⟩
   |_=>exact absurd (show false=true from e4) Ao
  case succ.t.f.refl xs a0=>
   obtain⟨a,us,rfl,h5,r5⟩:=kx;obtain⟨e3,e4⟩:=ky;subst e3;cases rv;obtain⟨vs,rv,pl,_⟩:=I.tuple (SqT.of (K:=X.K) h5);have pl:s.heap.IsTuple a vs.toArray:=pl;have hu':A.units<cLine:=by lia
   cases u' with
   |non=>cases ru;exact⟨⟨.tuple_none pl hu',.tuple_none pl hu'⟩,.tuple_none pl hu'⟩
   |bl b=>cases ru;exact⟨⟨.tuple_bool b pl hu',.tuple_bool b pl hu'⟩,.tuple_bool b pl hu'⟩
   |int b=>obtain⟨t,rfl⟩:=ru;exact⟨⟨.tuple_int b t pl hu',.tuple_int b t pl hu'⟩,.tuple_int b t pl hu'⟩
   |str b=>obtain⟨t,rfl⟩:=ru;exact⟨⟨.tuple_str b t pl hu',.tuple_str b t pl hu'⟩,.tuple_str b t pl hu'⟩
   |_=>exact absurd (show false=true from e4) Ao
  case succ.f.l.refl a0 xs=>
   obtain⟨a,us,rfl,h5,r5⟩:=ky;obtain⟨e3,e4⟩:=kx;subst e3;cases ru;obtain⟨vs,ru,pl,_⟩:=I.list (SqL.of (K:=X.K) h5);have hu':A.units<cLine:=by lia
   cases v' with
   |non=>cases rv;exact⟨⟨.none_list pl.isList hu',.none_list pl.isList hu'⟩,.none_list pl.isList hu'⟩
   |bl b=>cases rv;exact⟨⟨.bool_list b pl.isList hu',.bool_list b pl.isList hu'⟩,.bool_list b pl.isList hu'⟩
   |int b=>obtain⟨t,rfl⟩:=rv;exact⟨⟨.int_list b t pl.isList hu',.int_list b t pl.isList hu'⟩,.int_list b t pl.isList hu'⟩
   |str b=>obtain⟨t,rfl⟩:=rv;exact⟨⟨.str_list b t pl.isList hu',.str_list b t pl.isList hu'⟩,.str_list b t pl.isList hu'⟩
   |_=>exact absurd (show false=true from e4) Ao
  case succ.f.t.refl a0 xs=>
   obtain⟨a,us,rfl,h5,r5⟩:=ky;obtain⟨e3,e4⟩:=kx;subst e3;cases ru;obtain⟨vs,ru,pl,_⟩:=I.tuple (SqT.of (K:=X.K) h5);have pl:s.heap.IsTuple a vs.toArray:=pl;have hu':A.units<cLine:=by lia
   cases v' with
   |non=>cases rv;exact⟨⟨.none_tuple pl hu',.none_tuple pl hu'⟩,.none_tuple pl hu'⟩
   |bl b=>cases rv;exact⟨⟨.bool_tuple b pl hu',.bool_tuple b pl hu'⟩,.bool_tuple b pl hu'⟩
   |int b=>obtain⟨t,rfl⟩:=rv;exact⟨⟨.int_tuple b t pl hu',.int_tuple b t pl hu'⟩,.int_tuple b t pl hu'⟩
   |str b=>obtain⟨t,rfl⟩:=rv;exact⟨⟨.str_tuple b t pl hu',.str_tuple b t pl hu'⟩,.str_tuple b t pl hu'⟩
   |_=>exact absurd (show false=true from e4) Ao
def qA (s:S3) (h:H3) (x y:Rf):Option Bool:=match rdm s h x,rdm s h y with
 |some xs,some ys=>if xs.length=ys.length then qc (yv h 8) xs ys else some false
 |_,_=>match x,y with
  |.x a,.x b=>yv h 9 a b
  |_,_=>none
def zD:F2:=fun s h x y=>(qA s h x y).map fun b=>.v (.bl b)
def qf:F2:=fun s h x y=>(qA s h x y).map fun b=>.v (.bl !b)
def rEqT (κ:Kx) (neg:Bool):R2:=fun v w H Q=> ∃F σ x y b,Rel κ F σ H/\RfR κ F H x v/\RfR κ F H y w/\qA F.s F.h x y=some b/\Q (.bl (if neg then !b else b)) H
def Js {pins:AL} {s:Shared} {σ':L2.St} {x y:Rf} {v' u':V} {v u:Value} {b:Bool} {A:Around} (I:Inv X pins σ' H s) (rel:Rel κ F σ H) (rx:RfR κ F H x v') (ry:RfR κ F H y u') (rv:RelV v' v) (ru:RelV u' u) (e:qA F.s F.h x y=some b) (hu:A.units+9<cLine):
  SeqAt.RcAt A s v u b/\SeqAt.RcNeAt A s v u (!b):=by
 unfold qA at e
 split at e
 .rename_i xs ys q1 q2
  obtain⟨a,us,rfl,h5,r5⟩:=CN rel rx q1;obtain⟨a',us',rfl,h6,r6⟩:=CN rel ry q2;cases rv;cases ru;obtain⟨vs,rv,pl,_⟩:=I.list (SqL.of (K:=X.K) h5);obtain⟨zs,rz,pz,_⟩:=I.list (SqL.of (K:=X.K) h6);have l1:=r5.length;have l2:=r6.length;have l3:=rv.length;have l4:=rz.length
  by_cases hl:xs.length=ys.length
  .rw[Aa hl]at e
   have hsz:vs.toArray.size=zs.toArray.size:=by rw[Ak,Ak];lia
   have eb:b=(List.range vs.toArray.size).all (ans F.h 8 xs ys):=by
    rw[(Ea e).2,<-hl,Nat.min_self,Ak,<-l3,<-l1];rfl
   have items:∀j (h1:j<vs.toArray.size) (h2:j<zs.toArray.size),SeqAt.EqAt A.in1 s vs.toArray[j] zs.toArray[j] (ans F.h 8 xs ys j):=by
    intro j h1 h2;have h1':j<xs.length:=by rw[l1,l3];simpa using h1
    have h2':j<ys.length:=by rw[l2,l4];simpa using h2
    obtain⟨y1,hy1,ry1⟩:=r5.get (yq h1');obtain⟨y2,hy2,ry2⟩:=r6.get (yq h2');obtain⟨d,hd⟩:=(Ea e).1 j _ _ (yq h1') (yq h2');have ea:ans F.h 8 xs ys j=d:=by unfold ans;rw[yq h1',yq h2'];simp[hd]
    rw[ea];exact (Jr rel.heap 8 I ry1 ry2 (Vals.at rv h1 hy1) (Vals.at rz h2 hy2) hd (by show A.units+1+8<cLine;lia)).2
   rw[eb];exact⟨.lists pl.isList pz.isList hsz (by lia) items,.lists pl.isList pz.isList hsz (by lia) items⟩
  .rw[Ab hl]at e;cases e
   have hsz:(vs.toArray.size !=zs.toArray.size)=true:=by rw[Ak,Ak];simp;lia
   exact⟨.lists_lengths pl.isList pz.isList hsz (by lia),.lists_lengths pl.isList pz.isList hsz (by lia)⟩
 .split at e
  .exact (Jr rel.heap 9 I (show Rep κ F.β F.O H _ v' from rx) (show Rep κ F.β F.O H _ u' from ry) rv ru e hu).1
  .cases e
def yr (hu:X.A.units+9<cLine):OpR X (compareOp .Eq) (rEqT κ false):=by
 intro pins s σ H x y v u Q I rx ry h;obtain⟨F,σ',x3,y3,b,rel,r1,r2,e,q⟩:=h;exact (Js I rel r1 r2 rx ry e hu).1 X.prog X.w X.xe _ ⟨.bl b,H,I,rfl,q⟩
def CO (hu:X.A.units+9<cLine):OpR X (compareOp .NotEq) (rEqT κ true):=by
 intro pins s σ H x y v u Q I rx ry h;obtain⟨F,σ',x3,y3,b,rel,r1,r2,e,q⟩:=h;exact (Js I rel r1 r2 rx ry e hu).2 X.prog X.w X.xe _ ⟨.bl !b,H,I,rfl,q⟩
def yu:OpSim κ (rEqT κ false) zD:=fun F σ H x y z v w Q rel rx ry e k=>by
 unfold zD at e;cases q:qA F.s F.h x y with
 |none=>rw[q]at e;cases e
 |some b=>rw[q]at e;cases e;exact⟨F,σ,x,y,b,rel,rx,ry,q,k _ H Ext.refl ⟨rel,.bl _⟩⟩
def CP:OpSim κ (rEqT κ true) qf:=fun F σ H x y z v w Q rel rx ry e k=>by
 unfold qf at e;cases q:qA F.s F.h x y with
 |none=>rw[q]at e;cases e
 |some b=>rw[q]at e;cases e;exact⟨F,σ,x,y,b,rel,rx,ry,q,k _ H Ext.refl ⟨rel,.bl _⟩⟩
end
section
variable {X:Cx} {κ:Kx} {E:XK} {F:Fr} {σ:L2.St} {H H':Hp} {Q:VK} {p:Addr} {pos np:Pos} {i:Nat} {x:Str} {e:Expr} {es:List Expr} {t:A3}
def r_b {id:String} {r:List V->Hp->VK->Prop} {f:FB} (hs:qD κ r f) (hc:yM X (.builtin id) r) (hg:Gl X x) (hm:X.mg x=none) (hv:bootBuiltins x=some (.builtin id)) (ha:PA X (e::es) (zN κ E t)) (hn:x≠"__name__" :=by decide) (hdb:(x==("__debug__" :Str))=false:=by decide)
 (he:SE X e es:=by rfl) (hpl:BA X pos es:=by rfl):PE X (.Call (.Name x np) (e::es) [] pos) (zh κ E (eB f t)):=yL (Mh hc hg hm hv ha hn hdb he hpl) fun _ _ _ h=>te_b hs h
def zZ {T:String} {r:List V->Hp->VK->Prop} {f:FB} (hs:qD κ r f) (hc:yM X (.type T) r) (hg:Gl X x) (hm:X.mg x=none) (hv:bootBuiltins x=some (.type T)) (ha:PA X (e::es) (zN κ E t)) (hn:x≠"__name__" :=by decide) (hdb:(x==("__debug__" :Str))=false:=by decide)
 (he:SE X e es:=by rfl) (hpl:BA X pos es:=by rfl):PE X (.Call (.Name x np) (e::es) [] pos) (zh κ E (eB f t)):=yL (Mi hc hg hm hv ha hn hdb he hpl) fun _ _ _ h=>te_b hs h
def p1 {f:Rf} {vs:List V} (r:Paired (RfR κ F H) [f] vs):∃v,vs=[v]/\RfR κ F H f v:=by
 cases r with|cons a t=>cases t;exact⟨_,rfl,a⟩
def p2 {f g:Rf} {vs:List V} (r:Paired (RfR κ F H) [f,g] vs):∃v w,vs=[v,w]/\RfR κ F H f v/\RfR κ F H g w:=by
 cases r with|cons a t=>cases t with|cons b t=>cases t;exact⟨_,_,rfl,a,b⟩
def bLen:FB:=fun s h fs=>match fs with
 | [.x (.str y)]=>if y.length<=sizeLine then some (.v (.int y.length)) else none
 | [.x (.tup xs)]=>some (.v (.int xs.length))
 | [f]=>(rdl s h f).map fun xs=>.v (.int xs.length)
 |_=>none
def qh:qD κ (fun xs H Q=> ∃x n,xs=[x]/\LenV κ.K x H n/\Q (.int n) H) bLen:=fun F σ H fs z vs Q rel r e k=>by
 unfold bLen at e
 split at e
 .rename_i y
  obtain⟨v,rfl,rv⟩:=p1 r;cases (show Rep κ F.β F.O H (.str y) v from rv)
  obtain⟨h,rfl⟩:=qK e;exact⟨_,_,rfl,⟨h,rfl⟩,k _ H Ext.refl ⟨rel,.int _⟩⟩
 .rename_i xs
  obtain⟨v,rfl,rv⟩:=p1 r;cases e;cases (show Rep κ F.β F.O H (.tup xs) v from rv) with
  |tup h1 h2 h3 h4=>exact⟨_,_,rfl,.inr ⟨_,.of h1,rfl⟩,k _ H Ext.refl ⟨rel,by rw[h4.length];exact .int _⟩⟩
 .rename_i f _ _
  obtain⟨v,rfl,rv⟩:=p1 r;cases q:rdl F.s F.h f with
  |none=>rw[q]at e;cases e
  |some xs=>
   rw[q]at e;cases e;obtain⟨a,ys,rfl,sq,rs⟩:=CK rel rv q;exact⟨_,_,rfl,.inl ⟨_,sq,rfl⟩,k _ H Ext.refl ⟨rel,by rw[rs.length];exact .int _⟩⟩
 .cases e
def qe (hK:X.K=κ.K):yM X (.builtin "len") (fun xs H Q=> ∃x n,xs=[x]/\LenV κ.K x H n/\Q (.int n) H):=by rw[<-hK];exact LU
def bMax:FB:=fun _ _ fs=>match fs with
 | [.x (.int i),.x (.int j)]=>some (.v (.int (max i j)))
 |_=>none
def bMin:FB:=fun _ _ fs=>match fs with
 | [.x (.int i),.x (.int j)]=>some (.v (.int (min i j)))
 |_=>none
def bMin3:FB:=fun _ _ fs=>match fs with
 | [.x (.int i),.x (.int j),.x (.int k)]=>some (.v (.int (min i (min j k))))
 |_=>none
def NN:qD κ (fun xs H Q=> ∃i j,xs=[.int i,.int j]/\Q (.int (if j > i then j else i)) H) bMax:=fun F σ H fs z vs Q rel r e k=>by
 unfold bMax at e
 split at e
 .rename_i i j
  cases e;obtain⟨v,w,rfl,rv,rw'⟩:=p2 r;cases (show Rep κ F.β F.O H (.int i) v from rv)
  cases (show Rep κ F.β F.O H (.int j) w from rw')
  refine⟨i,j,rfl,k _ H Ext.refl ⟨rel,?_⟩⟩
  have:(if j > i then j else i)=max i j:=by split<;>lia
  rw[this];exact .int _
 .cases e
def NO:qD κ (fun xs H Q=> ∃i j,xs=[.int i,.int j]/\Q (.int (if j<i then j else i)) H) bMin:=fun F σ H fs z vs Q rel r e k=>by
 unfold bMin at e
 split at e
 .rename_i i j
  cases e;obtain⟨v,w,rfl,rv,rw'⟩:=p2 r;cases (show Rep κ F.β F.O H (.int i) v from rv)
  cases (show Rep κ F.β F.O H (.int j) w from rw')
  refine⟨i,j,rfl,k _ H Ext.refl ⟨rel,?_⟩⟩
  have:(if j<i then j else i)=min i j:=by split<;>lia
  rw[this];exact .int _
 .cases e
def bInt:FB:=fun _ _ fs=>match fs with
 | [.x (.int i)]=>some (.v (.int i))
 | [.x (.bl b)]=>some (.v (.int (if b then 1 else 0)))
 |_=>none
def Jt:qD κ (fun xs H Q=>(∃i,xs=[.int i]/\Q (.int i) H)\/∃k,xs=[.bl k]/\Q (.int (if k then 1 else 0)) H) bInt:=fun F σ H fs z vs Q rel r e k=>by
 unfold bInt at e
 split at e
 .rename_i i
  cases e;obtain⟨v,rfl,rv⟩:=p1 r;cases (show Rep κ F.β F.O H (.int i) v from rv)
  exact .inl ⟨i,rfl,k _ H Ext.refl ⟨rel,.int _⟩⟩
 .rename_i b
  cases e;obtain⟨v,rfl,rv⟩:=p1 r;cases (show Rep κ F.β F.O H (.bl b) v from rv)
  exact .inr ⟨b,rfl,k _ H Ext.refl ⟨rel,.int _⟩⟩
 .cases e
def bList:FB:=fun s h fs=>match fs with
 | [.x (.tup xs)]=>some (.m (.lst xs))
 | [f]=>(rdl s h f).map fun xs=>.m (.lst xs)
 |_=>none
def mapO {α β:Type} (f:α->Option β):List α->Option (List β)
 | []=>some []
 |x::r=>match f x,mapO f r with
  |some y,some l=>some (y::l)
  |_,_=>none
theorem GU {α β γ:Type} {f:α->Option β} {g:γ->α} {k:γ->β} (h:∀c,f (g c)=some (k c)):∀l:List γ,mapO f (l.map g)=some (l.map k)
 | []=>rfl
 |x::r=>by simp only[Ax,mapO,h x,GU h r]
def Ju {α β:Type} {f:α->Option β} {x:α} {r:List α} {l:List β} (e:mapO f (x::r)=some l):∃y l',f x=some y/\mapO f r=some l'/\l=y::l':=by
 unfold mapO at e;cases q1:f x with
 |none=>simp only[q1]at e;cases e
 |some y=>
  cases q2:mapO f r with
  |none=>simp only[q1,q2]at e;cases e
  |some l'=>simp only[q1,q2]at e;cases e;exact⟨y,l',rfl,rfl,rfl⟩
def bl3:V3->Option Bool
 |.bl b=>some b
 |_=>none
theorem Jv:∀{xs:List V3} {ys:List V} {bs:List Bool},Reps κ F.β F.O H xs ys->mapO bl3 xs=some bs->ys=bs.map V.bl
 |_,_,_,.nil,e=>by cases e;rfl
 |x::xs,y::ys,bs,.cons a r,e=>by
  obtain⟨b,l,h1,h2,rfl⟩:=Ju e;cases x<;>simp[bl3]at h1
  subst h1;cases a;rw[Ax,Jv r h2]
def bAll (q:List Bool->Bool):FB:=fun s h fs=>match fs with
 | [f]=>match rdl s h f with
  |some xs=>(mapO bl3 xs).map fun bs=>.v (.bl (q bs))
  |none=>none
 |_=>none
def GV {q:List Bool->Bool}:qD κ (fun xs H Q=> ∃(p:Addr) (bs:List Bool),xs=[.ref p]/\SqL κ.K H p (bs.map V.bl)/\Q (.bl (q bs)) H) (bAll q):=fun F σ H fs z vs Q rel r e k=>by
 unfold bAll at e
 split at e
 .rename_i f
  obtain⟨v,rfl,rv⟩:=p1 r;cases q1:rdl F.s F.h f with
  |none=>rw[q1]at e;cases e
  |some xs=>
   rw[q1]at e;cases q2:mapO bl3 xs with
   |none=>simp only[q2]at e;cases e
   |some bs=>
    simp only[q2]at e;cases e;obtain⟨a,ys,rfl,sq,rs⟩:=CK rel rv q1;exact⟨a,bs,rfl,by rw[<-Jv rs q2];exact sq,k _ H Ext.refl ⟨rel,.bl _⟩⟩
 .cases e
def Jw (hK:X.K=κ.K) (hc:X.calm=true):yM X (.builtin "all") (fun xs H Q=> ∃(p:Addr) (bs:List Bool),xs=[.ref p]/\SqL κ.K H p (bs.map V.bl)/\Q (.bl (bs.all id)) H):=by rw[<-hK];exact MI hc
def NP (hK:X.K=κ.K) (hc:X.calm=true):yM X (.builtin "any") (fun xs H Q=> ∃(p:Addr) (bs:List Bool),xs=[.ref p]/\SqL κ.K H p (bs.map V.bl)/\Q (.bl (bs.any id)) H):=by rw[<-hK];exact MJ hc
instance {x:Int}:Decidable (InLong x):=inferInstanceAs (Decidable (_/\_))
def ty3 (s:S3) (h:H3):Rf->Option String
 |.x .non=>some "NoneType"
 |.x (.bl _)=>some "bool"
 |.x (.int _)=>some "int"
 |.x (.str _)=>some "str"
 |.x (.tup _)=>some "tuple"
 |.x (.scr _)=>none
 |f=>(rdl s h f).map fun _=>"list"
def isa (t T:String):Option Bool:=
 if T="int" then some (t=="int" || t=="bool") else if T="bool" \/T="str" \/T="list" \/T="tuple" then some (t==T) else none
def bIsT:FB:=fun s h fs=>match fs with
 | [f,.x (.ty T)]=>match ty3 s h f with
  |some t=>(isa t T).map fun b=>.v (.bl b)
  |none=>none
 |_=>none
def NQ {K:FG} {t T:String} {b:Bool} (ht:t∈["NoneType","bool","int","str","tuple","list"]) (e:isa t T=some b):PySem.W.kitOne K (.type t) (.type T)=some b:=by
 unfold isa at e;have hT:T∈["int","bool","str","list","tuple"]:=by
  by_cases h:T="int"
  .simp[h]
  .rw[Ab h]at e
   by_cases h2:T="bool" \/T="str" \/T="list" \/T="tuple"
   .simp only[Ae,A7,Az];exact .inr h2
   .rw[Ab h2]at e;cases e
 simp only[Ae,A7,Az]at ht hT
 rcases ht with rfl|rfl|rfl|rfl|rfl|rfl<;>rcases hT with rfl|rfl|rfl|rfl|rfl<;>(simp at e;subst e;rfl)
def NR {f:Rf} {v:V} {t:String} (rel:Rel κ F σ H) (r:RfR κ F H f v) (e:ty3 F.s F.h f=some t):t∈["NoneType","bool","int","str","tuple","list"]/\TyOf κ.K H v (.type t):=by
 have lists:∀{f:Rf} {v:V} {t:String},RfR κ F H f v->(∀ns,f≠ .x (.scr ns))->((rdl F.s F.h f).map fun _=>"list")=some t->t∈["NoneType","bool","int","str","tuple","list"]/\TyOf κ.K H v (.type t):=by
  intro f v t r hf e;cases q:rdl F.s F.h f with
  |none=>rw[q]at e;cases e
  |some xs=>
   rw[q]at e;cases e;have q2:rdm F.s F.h f=some xs:=by
    unfold rdm
    split
    .rename_i ns;exact absurd rfl (hf ns)
    .exact q
   obtain⟨a,ys,rfl,ha,_⟩:=CN rel r q2;exact⟨by simp,.lst ha⟩
 cases f with
 |s i=>exact lists r (fun _ z=>nomatch z) e
 |x y=>
  cases y with
  |non=>cases e;cases (show Rep κ F.β F.O H .non v from r);exact⟨by simp,.non⟩
  |bl b=>cases e;cases (show Rep κ F.β F.O H (.bl b) v from r);exact⟨by simp,.bl b⟩
  |int b=>cases e;cases (show Rep κ F.β F.O H (.int b) v from r);exact⟨by simp,.int b⟩
  |str b=>cases e;cases (show Rep κ F.β F.O H (.str b) v from r);exact⟨by simp,.str b⟩
  |tup xs=>cases e;cases (show Rep κ F.β F.O H (.tup xs) v from r) with|tup h1 _ _ _=>exact⟨by simp,.tup h1⟩
  |scr ns=>cases e
  |lst xs=>exact lists r (fun _ z=>nomatch z) e
  |loc n=>exact lists r (fun _ z=>nomatch z) e
  |_=>cases e
def NS:qD κ (fun xs H Q=> ∃x T t b,xs=[x,.ty T]/\TyOf κ.K H x t/\PySem.W.kitOne κ.K t (.type T)=some b/\Q (.bl b) H) bIsT:=fun F σ H fs z vs Q rel r e k=>by
 unfold bIsT at e
 split at e
 .rename_i f T
  obtain⟨v,w,rfl,rv,rw'⟩:=p2 r;cases (show Rep κ F.β F.O H (.ty T) w from rw')
  cases q1:ty3 F.s F.h f with
  |none=>rw[q1]at e;cases e
  |some t=>
   rw[q1]at e;cases q2:isa t T with
   |none=>simp only[q2]at e;cases e
   |some b=>
    simp only[q2]at e;cases e;obtain⟨h1,h2⟩:=NR rel rv q1;exact⟨v,T,_,b,rfl,h2,NQ h1 q2,k _ H Ext.refl ⟨rel,.bl _⟩⟩
 .cases e
def NT (hK:X.K=κ.K):yM X (.builtin "isinstance") (fun xs H Q=> ∃x T t b,xs=[x,.ty T]/\TyOf κ.K H x t/\PySem.W.kitOne κ.K t (.type T)=some b/\Q (.bl b) H):=by rw[<-hK];exact MH
def tru3 (s:S3) (h:H3):Rf->Option Bool
 |.x .non=>some false
 |.x (.bl b)=>some b
 |.x (.int i)=>some (i !=0)
 |.x (.str y)=>if y.length<=sizeLine then some ((y.length:Int) !=0) else none
 |.x (.tup xs)=>some (!xs.isEmpty)
 |f=>(rdl s h f).map fun xs=> !xs.isEmpty
def tP (p:P3):T3:=fun s h=>(p s h).bind fun f h1=>match tru3 s h1 f with
 |some b=>.ok b h1
 |none=>.no
end
section
variable {X:Cx} {κ:Kx} {E:XK} {F F1 F2 F':Fr} {σ σ':L2.St} {H H1 H2 H':Hp} {Q:VK} {p:Addr} {e a b o:Expr} {pos apos np:Pos} {i:Nat} {D:Ends}
def qC (a:A3):I3:=fun s h=>(a s h).bind fun fs h1=>match fs with
 | [.x (.int j)]=>if -(2 ^ 62)<=j/\j<2 ^ 62 then .ok ⟨[],(List.range j.toNat).map fun k=>.int (0+(k:Nat)),fun _=>True⟩ h1 else .no
 |_=>.no
def NU {lo:Int} {n:Nat}:IR κ ⟨[],(List.range n).map fun k=>.int (lo+(k:Nat)),fun _=>True⟩ [] (Itr lo n):=fun F σ H rel _ _ i=>by
 have el:((List.range n).map fun k=>V3.int (lo+(k:Nat))).length=n:=by simp
 refine⟨fun hi=>⟨show i<n by rw[el]at hi;exact hi,fun x H' ⟨e1,e2⟩=>?_⟩,fun hi=>show n<=i by rw[el]at hi;exact hi⟩
 subst e1;subst e2;have hi:i<n:=by simpa using hi
 exact⟨.int (lo+i),by simp[hi],Ext.refl,rel,.int _⟩
def FU {tg:Expr} {t:A3} (hg:Gl X "range") (hm:X.mg "range" =none) (ha:PA X [a] (zN κ E t)) (hs:starEach [a] X.env=[(false,eval a X.env)]:=by rfl):PI X tg (.Call (.Name "range" np) [a] [] pos) (yo κ E (qC t)):=PIw (LG hg hm ha hs) fun σ H R ⟨F,rel,o⟩=>
 (yh (K:=kA κ) km_I rel o).mono fun vs H1 ⟨β1,h1,fs,e1,⟨r1,rf⟩,o1⟩=>by
  match fs,rf,o1 with
  | [.x (.int j)],rf,o1=>
   obtain⟨v,rfl,rv⟩:=p1 rf;cases (show Rep κ β1 F.O H1 (.int j) v from rv)
   by_cases hj: -(2 ^ 62)<=j/\j<2 ^ 62
   .simp only[Aa hj]at o1
    exact⟨j,rfl,hj.1,hj.2,o1 β1 _ H1 Ext.refl ⟨r1,[],.nil,NU⟩⟩
   .simp only[Ab hj]at o1;exact o1.elim
def Rel.tup2 {x y:V3} {v w:V} {T:Addr} (rel:Rel κ F σ H) (hT:H T=none) (rx:Rep κ F.β F.O H x v) (ry:Rep κ F.β F.O H y w):Ext No F.β H F.β (zl H T (.tup [v,w]))/\Rel κ F σ (zl H T (.tup [v,w]))/\Rep κ F.β F.O (zl H T (.tup [v,w])) (.tup [x,y]) (.ref T):=by
 have q:=Post.tup (N:=No) rel hT (.cons rx (.cons ry .nil));exact⟨yN hT,q.1,q.2⟩
def yc (n:Nat) (fr:List Nat) (s:S3):S3:=List.replicate n none++fr.map fun j=>match s[j]? with
 |some (some (.v x))=>some (.v x)
 |_=>none
open Classical in
def qx (ok:H3->Prop) (g:G3) (c:T3) (e:E3):List V3->List V3->S3->H3->Res (List V3)
 | [],acc,_,h=>if ok h then .ok acc h else .no
 |x::r,acc,s,h=>if ok h then match g x s with
  |none=>.no
  |some s1=>match c s1 h with
   |.ok true h1=>match e s1 h1 with
    |.ok v h2=>match v.fz with
     |some y=>if acc.length<sizeLine then qx ok g c e r (acc++[y]) s1 h2 else .no
     |none=>.no
    |_=>.no
   |.ok false h1=>qx ok g c e r acc s1 h1
   |_=>.no
  else .no
def ji (n:Nat) (fr:List Nat) (it:I3) (g:G3) (c:T3) (e:E3):E3:=fun s h=>(it s h).bind fun I h1=>(qx I.ok g c e I.xs [] (yc n fr s) h1).bind fun vs h2=>.ok (.m (.lst vs)) h2
def tTru:T3:=fun _ h=>.ok true h
def BN:jb X [] (zO κ E tTru):=fun pins s σ H Q I ⟨F,rel,o⟩=>ME pins s σ H Q I (o F.β true H Ext.refl ⟨rfl,rel⟩)
def CQ {β:AO} {d:Addr} {o:HO} (ho:∃u,H d=some u):Ext (fun a=>a=d) β H β (zl H d o):=
 ⟨fun a u ha hn m=>⟨by rw[zI m];exact ha,hn⟩,Af _,fun _ _ _ h=>h,fun a u ha=>by
  by_cases z:a=d
  .subst z;exact⟨o,yQ⟩
  .exact⟨u,by rw[zI z];exact ha⟩,nwb0⟩
def RelH.wrO {O:Addr->Prop} {β:AO} {h:H3} {d:Addr} {u:HO} (r:RelH κ O β h H) (hd:O d) (hu:∀ys,u≠HO.tup ys:=by intro _ z;cases z):RelH κ O β h (zl H d u):=by
 have ex:=CQ (β:=β) (o:=u) (r.trk' d hd);have th:∀a w,H a=some w->(∀ys,w≠HO.tup ys)->∃w,zl H d u a=some w/\∀ys,w≠HO.tup ys:=fun a w q n=>by
  by_cases z:a=d
  .subst z;exact⟨u,yQ,hu⟩
  .exact⟨w,by rw[zI z];exact q,n⟩
 refine⟨r.len,r.inj,r.off,fun a ha=>let ⟨w,q,n⟩:=r.trk a ha;th a w q n,fun i a q=>let ⟨w,z,n⟩:=r.btr i a q;th a w z n,fun i c hc=>(r.cell i c hc).imp id fun ⟨a,ha,q⟩=>⟨a,ha,q.ext ex (fun b hb=>by rw[hb];exact hd) (fun _ _ _ n=>n) fun w hw=>?_⟩⟩
 rw[zI (fun z=>by subst z;exact r.off a hd (Al ha))];exact hw
def Rel.wrOi {d:Addr} {u:HO} (r:Rel κ F σ H) (hd:F.Oi d) (hu:∀ys,u≠HO.tup ys:=by intro _ z;cases z):Rel κ F σ (zl H d u) where
 heap:=r.heap.wrO (.inr (.inr hd)) hu
 slen:=r.slen
 llen:=r.llen
 linj:=r.linj
 lt:=r.lt
 lo:=r.lo
 to:=r.to
 tn:=r.tn
 slot:=fun i x q=>by
  have hO:F.O d:= .inr (.inr hd);have ex:=CQ (β:=F.β) (o:=u) (r.heap.trk' d hO);obtain⟨v,h1,h2⟩:=r.slot i x q
  refine⟨v,h1,?_⟩
  cases x with
  |v x=>exact Rep.ext ex (fun b hb=>by rw[hb];exact hO) (fun _ _ _ n=>n) h2
  |m c=>
   obtain⟨a,a1,a2,a3⟩:=h2
   refine⟨a,a1,a2,a3.ext ex (fun b hb=>by rw[hb];exact hO) (fun _ _ _ n=>n) fun w hw=>?_⟩
   rw[zI (fun z=>by subst z;exact r.lo a (Al a1) hd)];exact hw
def Jx {n:Nat} {fr:List Nat} {s:S3} {i:Nat} {x:Vl} (h:(yc n fr s)[i]? =some (some x)):∃j y,fr[i-n]? =some j/\n<=i/\s[j]? =some (some (.v y))/\x=.v y:=by
 unfold yc at h
 by_cases hi:i<n
 .rw[A8 (by simpa using hi),Dx]at h
  split at h<;>cases h
 .rw[Bp (by simpa using hi),B7,A2]at h
  cases q:fr[i-n]? with
  |none=>rw[q]at h;cases h
  |some j=>
   rw[q]at h;simp only[A5,Cs]at h
   split at h
   .rename_i y hy;cases h;exact⟨j,y,rfl,by lia,hy,rfl⟩
   .cases h
def Jy {n:Nat} {fr:List Nat} {it:I3} {g:G3} {c:T3} {d:E3} (h:zh κ E (ji n fr it g c d) σ H Q):BG (yo κ E it) n fr (yj κ g) (zO κ E0 c) (zh κ E0 d) σ H Q:=by
 obtain⟨F,rel,o⟩:=h
 refine (yh (K:=kI κ) zH rel o).mono fun J H1 ⟨β1,h1,I,e1,⟨r1,vs,rv,ir⟩,o1⟩=>fun D hD=>?_
 have hDH:H D=none:=e1.nw D hD
 let Oi:Addr->Prop:=fun a=>a=D\/F.O a
 have rn:=(r1.new (o:= .lst []) hD);have rh1:RelH κ Oi β1 h1 (zl H1 D (.lst [])):=rn.1.heap.sub fun a ha=>ha.elim (fun z=>.inl (by rw[z];exact An)) fun z=>Fr.O_with z
 have hO1:∀a u,H1 a=some u->¬F.O a->¬Oi a:=fun a u ha n z=>z.elim (fun w=>by subst w;rw[hD]at ha;cases ha) n
 let F0:Fr:=⟨Oi,[],β1,List.replicate (yc n fr F.s).length none,yc n fr F.s,h1⟩
 have sub0:∀(F':Fr),F'.T=[]->(∀a,some a∉F'.l)->F'.Oi=Oi->∀a,F'.O a->Oi a:=fun F' t l oi a ha=>by
  rcases ha with z|z|z
  .rw[t]at z;cases z
  .exact absurd z (l a)
  .rw[oi]at z;exact z
 have hlen:(yc n fr F.s).length=(qW n fr σ).length:=by unfold yc qW;simp
 have rel0:Rel κ F0 (qW n fr σ) (zl H1 D (.lst [])):=by
  refine⟨rh1.sub (sub0 F0 rfl (fun a=>ql) rfl),hlen,?_,fun i j a h=>absurd (Al h) ql,fun a ha=>absurd ha ql,fun a ha=>absurd ha ql,fun a ha=>(by cases ha),List.nodup_nil,fun i x hx=>?_⟩
  .show (List.replicate (yc n fr F.s).length (none:Option Addr)).length=(yc n fr F.s).length
   simp
  .obtain⟨j,y,hj,hi,hy,rfl⟩:=Jx hx
   obtain⟨v,hv,rv⟩:=r1.slot j _ hy
   refine⟨v,?_,Rep.sub (sub0 F0 rfl (fun a=>ql) rfl) (Rep.ext (yN hD) (fun _ z=>z.elim) hO1 (show Rep κ β1 F.O H1 y v from rv))⟩
   unfold qW;rw[Bp (by simpa using hi),B7,A2,hj]
   simp[hv]
 have rv0:Reps κ β1 Oi (zl H1 D (.lst [])) I.its vs:=rv.ext (yN hD) (fun _ z=>z.elim) hO1
 refine⟨fun i m acc σ' H'=>m=I.xs.length-i/\i<=I.xs.length/\H' D=some (.lst acc)/\∃(F':Fr) (acc3:List V3),Rel κ F' σ' H'/\F'.T=[]/\(∀a,some a∉F'.l)/\F'.Oi=Oi/\Reps κ F'.β Oi H' I.its vs/\Reps κ F'.β Oi H' acc3 acc/\Ext No β1 H1 F'.β H'/\
   Out κ E (kE κ) (F.to β1 h1) σ H1 Q ((qx I.ok g c d (I.xs.drop i) acc3 F'.s F'.h).bind fun vs h2=>.ok (.m (.lst vs)) h2),
  ⟨_,rfl,Bk _,yQ,F0,[],rel0,rfl,fun a=>ql,rfl,rv0,.nil,yN hD,o1⟩,?_⟩
 rintro i m acc σ' H' ⟨rfl,hi,hacc,F',acc3,rel',ht,hl,hoi,rits,racc,ex,out⟩
 refine⟨hacc,?_⟩
 have hO:∀a,F'.O a↔Oi a:=fun a=>⟨sub0 F' ht hl hoi a,fun z=>.inr (.inr (by rw[hoi];exact z))⟩
 have eO:F'.O=Oi:=funext fun a=>propext (hO a)
 by_cases hok:I.ok F'.h
 case neg=>
  exfalso
  cases q:I.xs.drop i with
  |nil=>rw[q]at out;unfold qx at out;rw[Ab hok]at out;exact out
  |cons x r=>rw[q]at out;unfold qx at out;rw[Ab hok]at out;exact out
 obtain⟨i1,i2⟩:=ir F' σ' H' rel' (by rw[eO];exact rits) hok i
 by_cases hlt:i<I.xs.length
 .obtain⟨go,yl⟩:=i1 hlt
  refine .inr ⟨go,fun acc' σ3 H5=>H5 D=some (.lst acc')/\∃(F':Fr) (acc3:List V3),Rel κ F' σ3 H5/\F'.T=[]/\(∀a,some a∉F'.l)/\F'.Oi=Oi/\Reps κ F'.β Oi H5 I.its vs/\Reps κ F'.β Oi H5 acc3 acc'/\Ext No β1 H1 F'.β H5/\
   Out κ E (kE κ) (F.to β1 h1) σ H1 Q ((qx I.ok g c d (I.xs.drop (i+1)) acc3 F'.s F'.h).bind fun vs h2=>.ok (.m (.lst vs)) h2),fun acc' σ3 H5 n5=>⟨_,by lia,rfl,hlt,n5⟩,fun x H2 y=>?_⟩
  obtain⟨x3,ex3,ey,ry,rp⟩:=yl x H2 y;have hd:I.xs.drop i=x3::I.xs.drop (i+1):=by
   rw[Ct hlt]
   congr 1
   rw[yq hlt]at ex3;exact Option.some.inj ex3
  rw[hd]at out;unfold qx at out;rw[Aa hok]at out;cases w:g x3 F'.s with
  |none=>simp only[w]at out;exact out.elim
  |some s1=>
   simp only[w]at out
   refine⟨F',x3,s1,ry,ht,rp,w,fun F3 σ3 e3 b3 s3 h3 r3=>?_⟩
   have hl3:∀a,some a∉F3.l:=fun a ha=>by
    rcases e3.lam a ha with z|z
    .exact hl a z
    .obtain⟨k,hk⟩:=C6 ha
     obtain⟨u,hu,_⟩:=r3.heap.trk a (.inr (.inl ha));rw[z]at hu;cases hu
   have hoi3:F3.Oi=Oi:=e3.oi.trans hoi;have eO3:F3.O=Oi:=funext fun a=>propext ⟨sub0 F3 e3.tt hl3 hoi3 a,fun z=>.inr (.inr (by rw[hoi3];exact z))⟩
   refine⟨F3,r3,?_⟩
   rw[s3,h3];cases q:c s1 F'.h with
   |no=>simp only[q]at out;exact out.elim
   |ex x h2=>simp only[q]at out;exact out.elim
   |ok cb h2=>
    simp only[q]at out;rintro β4 cb' H4 e4 ⟨rfl,r4⟩;have ex4:Ext No β1 H1 β4 H4:=(ex.trans0 ey).trans0 (by rw[b3]at e4;exact e4)
    have k4:∀{x:List V3} {v:List V},Reps κ F'.β Oi H' x v->Reps κ β4 Oi H4 x v:=fun r=>(r.ext0 ey).ext0 (by rw[b3]at e4;exact e4)
    have hD2:H2 D=some (.lst acc):=(ey.keep D _ hacc (rel'.heap.off D ((hO D).mpr (.inl rfl))) fun z=>z).1
    have hD4:H4 D=some (.lst acc):=(e4.keep D _ hD2 (r3.heap.off D (by rw[eO3];exact .inl rfl)) fun z=>z).1
    cases cb' with
    |false=>rw[Ab Ao];exact⟨hD4,F3.to β4 h2,acc3,r4,e3.tt,hl3,hoi3,k4 rits,k4 racc,ex4,by show Out _ _ _ _ _ _ _ ((qx I.ok g c d (I.xs.drop (i+1)) acc3 F3.s h2).bind _);rw[s3];exact out⟩
    |true=>
     rw[Aa rfl]
     refine⟨F3.to β4 h2,r4,?_⟩
     show Out κ E0 (kE κ) (F3.to β4 h2) σ3 H4 _ (d F3.s h2);rw[s3];cases q5:d s1 h2 with
     |no=>simp only[q5]at out;exact out.elim
     |ex x h5=>simp only[q5]at out;exact out.elim
     |ok r5 h5=>
      simp only[q5]at out;intro β5 v5 H5 e5 p5;cases z:r5.fz with
      |none=>simp only[z]at out;exact out.elim
      |some y5=>
       simp only[z]at out
       by_cases hsz:acc3.length<sizeLine
       .rw[Aa hsz]at out
        obtain⟨r6,rep6⟩:=Post.fz p5 z;have hD5:H5 D=some (.lst acc):=(e5.keep D _ hD4 (r4.heap.off D (.inr (.inr (by show F3.Oi D;rw[hoi3];exact .inl rfl)))) fun z=>z).1
        have ex6:Ext (fun a=>a=D) β5 H5 β5 (zl H5 D (.lst (acc++[v5]))):=CQ ⟨_,hD5⟩
        have k6:∀{x:List V3} {v:List V},Reps κ β5 Oi H5 x v->Reps κ β5 Oi (zl H5 D (.lst (acc++[v5]))) x v:=fun r=>r.ext ex6 (fun b hb=>by rw[hb];exact .inl rfl) fun _ _ _ n=>n
        have rep6:Rep κ β5 Oi H5 y5 v5:=by
         have e:((F3.to β4 h2).to β5 h5).O=Oi:=eO3;have q:Rep κ β5 ((F3.to β4 h2).to β5 h5).O H5 y5 v5:=rep6;rw[e]at q;exact q
        have k45:∀{x:List V3} {v:List V},Reps κ β4 Oi H4 x v->Reps κ β5 Oi H5 x v:=fun r=>r.ext0 e5
        refine⟨hD5,by rw[<-racc.length];exact hsz,yQ,(F3.to β4 h2).to β5 h5,acc3++[y5],Rel.wrOi r6 (by show F3.Oi D;rw[hoi3];exact .inl rfl),e3.tt,hl3,hoi3,k6 (k45 (k4 rits)),k6 ((k45 (k4 racc)).append (.cons rep6 .nil)),?_,?_⟩
        .have e45:=ex4.trans0 e5
         refine⟨fun a u ha hn _=>?_,e45.len,e45.bet,fun a u ha=>?_,e45.nwb⟩
         .obtain⟨q1,q2⟩:=e45.keep a u ha hn fun z=>z
          exact⟨by rw[zI (fun z=>by subst z;rw[hD]at ha;cases ha)];exact q1,q2⟩
         .obtain⟨u',hu'⟩:=e45.there a u ha
          exact ex6.there a u' hu'
        .show Out _ _ _ _ _ _ _ ((qx I.ok g c d (I.xs.drop (i+1)) (acc3++[y5]) F3.s h5).bind _)
         rw[s3];exact out
       .rw[Ab hsz]at out;exact out.elim
 .have hi:i=I.xs.length:=by lia
  subst hi;rw[B4]at out;unfold qx at out;rw[Aa hok]at out
  refine .inl ⟨i2 (Af _),out F'.β (.ref D) H' ex ?_⟩
  have rh:RelH κ (fun a=>a=D\/(F.to β1 h1).O a) F'.β F'.h H':=rel'.heap.sub fun a ha=>(hO a).mpr ha
  refine⟨D,rfl,Rel.nextNew (F:=F.to β1 h1) r1 ex rh hD,⟨acc,hacc,racc.sub fun a ha=>?_⟩,hD⟩
  rcases ha with z|z
  .rcases Ae.mp z with z|z
   .exact .inl z
   .exact .inr (.inl z)
  .exact .inr (.inr z)
def FV {elt tg iter:Expr} {ifs:List Expr} {loc free:List Str} {fr:List Nat} {scope:Scope} {it:I3} {g:G3} {c:T3} {d:E3} (hc:X.calm=true) (S:CompScope X loc free fr scope) (hi:PI X tg iter (yo κ E it))
 (hg:∀cl C s H ex,PG (yA X (loc++free) scope cl C s H ex) tg (yj κ g)) (ht:∀cl C s H ex,jb (yA X (loc++free) scope cl C s H ex) ifs (zO κ E0 c)) (he:∀cl C s H ex,PE (yA X (loc++free) scope cl C s H ex) elt (zh κ E0 d))
 (hs:∀x,foldedSetIterable iter X.env x=pure x:=by intro _;rfl):PE X (.ListComp elt [⟨tg,iter,ifs,0⟩] scope pos) (zh κ E (ji loc.length fr it g c d)):=yL (MF hc S hi hg ht he hs) fun _ _ _ h=>Jy h
def NV {y:Str} {py spos:Pos} {elt tg iter:Expr} {ifs:List Expr} {loc free:List Str} {fr:List Nat} {scope:Scope} {it:I3} {g:G3} {c:T3} {d:E3} (hN:X.N.Nodup) (hi':X.N[i]? =some y) (hx:X.env.scope.names.lookup y=some .local) (hc:X.calm=true) (S:CompScope X loc free fr scope) (hi:PI X tg iter (yo κ E it))
 (hg:∀cl C s H ex,PG (yA X (loc++free) scope cl C s H ex) tg (yj κ g)) (ht:∀cl C s H ex,jb (yA X (loc++free) scope cl C s H ex) ifs (zO κ E0 c)) (he:∀cl C s H ex,PE (yA X (loc++free) scope cl C s H ex) elt (zh κ E0 d))
 (hs:∀x,foldedSetIterable iter X.env x=pure x:=by intro _;rfl) (hsw:swapsWith (.ListComp elt [⟨tg,iter,ifs,0⟩] scope pos) (some (.Name y py)) spos.line X.env=pure true:=by rfl):
 PS X (.Assign [.Name y py] (.ListComp elt [⟨tg,iter,ifs,0⟩] scope pos) spos) (zr κ E (sSet i (ji loc.length fr it g c d))):=je (MG hN hi' hx hc S hi hg ht he hs hsw) fun D σ H h=>Jy (GQ h)
end
section
variable {X:Cx} {κ:Kx} {E:XK} {F F':Fr} {σ σ':L2.St} {H H1 H':Hp} {Q:VK} {p:Addr} {e a b c o:Expr} {pos apos np cpos:Pos} {i:Nat} {D:Ends}
def eNeg (p:P3):E3:=fun s h=>(p s h).bind fun f h1=>match f with
 |.x (.int i)=>.ok (.v (.int (-i))) h1
 |_=>.no
def EW {d:P3} (ha:PE X a (zq κ E d)):PE X (.UnaryOp .USub a pos) (zh κ E (eNeg d)):=yL (LK LM ha) fun σ H Q ⟨F,rel,o⟩=>
 (yh (K:=kP κ) zH rel o).mono fun v H1 ⟨β1,h1,f,e1,⟨r1,rf⟩,o1⟩=>by
  match f,rf,o1 with
  |.x (.int i),rf,o1=>
   cases (show Rep κ β1 F.O H1 (.int i) v from rf)
   exact⟨i,rfl,o1 β1 _ H1 Ext.refl ⟨r1,.int _⟩⟩
def eChain (f g:F2) (a b c:P3):E3:=fun s h=>(a s h).bind fun x h1=>(b s h1).bind fun y h2=>match f s h2 x y with
 |some (.v (.bl true))=>(c s h2).bind fun z h3=>opt h3 (g s h3 y z)
 |some (.v (.bl false))=>.ok (.v (.bl false)) h2
 |_=>.no
def NW {r r':R2} {f g:F2} {da db dc:P3} (hs:OpSim κ r f) (hs':OpSim κ r' g) (h:zh κ E (eChain f g da db dc) σ H Q):Iu r r' (zq κ E da) (zq κ E db) (zq κ E dc) σ H Q:=by
 obtain⟨F,rel,o⟩:=h
 refine (yh (K:=kP κ) zH rel o).mono fun v H1 ⟨β1,h1,f1,e1,⟨r1,rf1⟩,o1⟩=>?_
 refine (yh (F:=F.to β1 h1) (K:=kP κ) zH r1 o1).mono fun w H2 ⟨β2,h2,f2,e2,⟨r2,rf2⟩,o2⟩=>?_
 have rf1':=RfR.ext (F:=F.to β1 h1) (β':=β2) (h':=h2) r1 e2 rf1;cases q:f F.s h2 f1 f2 with
 |none=>simp only[q]at o2;exact o2.elim
 |some z=>
  refine hs (F.to β2 h2) σ H2 f1 f2 z v w _ r2 rf1' rf2 q fun u H' e p=>?_
  match z,q,p with
  |.v (.bl true),q,p=>
   simp only[q]at o2;cases (show Rep κ β2 F.O H' (.bl true) u from p.2)
   refine⟨true,rfl,?_⟩
   rw[Aa rfl];have o3:=Out.move (F:=F.to β2 h2) (h':=h2) zH e o2
   refine (yh (F:=F.to β2 h2) (K:=kP κ) zH p.1 o3).mono fun w3 H3 ⟨β3,h3,f3,e3,⟨r3,rf3⟩,o4⟩=>?_
   obtain⟨z',q',k⟩:=Out.opt (F:=F.to β3 h3) rfl o4;exact hs' (F.to β3 h3) σ H3 f2 f3 z' w w3 Q r3 (RfR.ext (F:=F.to β2 h2) (β':=β3) (h':=h3) p.1 e3 (RfR.ext (F:=F.to β2 h2) (β':=β2) (h':=h2) r2 e rf2)) rf3 q' k
  |.v (.bl false),q,p=>
   simp only[q]at o2;cases (show Rep κ β2 F.O H' (.bl false) u from p.2)
   refine⟨false,rfl,?_⟩
   rw[Ab Ao];exact o2 β2 _ H' e ⟨p.1,.bl _⟩
  |.v .non,q,p=>simp only[q]at o2;exact o2.elim
  |.v (.int _),q,p=>simp only[q]at o2;exact o2.elim
  |.v (.str _),q,p=>simp only[q]at o2;exact o2.elim
  |.v (.ty _),q,p=>simp only[q]at o2;exact o2.elim
  |.v (.tup _),q,p=>simp only[q]at o2;exact o2.elim
  |.v (.lst _),q,p=>simp only[q]at o2;exact o2.elim
  |.v (.scr _),q,p=>simp only[q]at o2;exact o2.elim
  |.v (.dK _),q,p=>simp only[q]at o2;exact o2.elim
  |.v (.dT _),q,p=>simp only[q]at o2;exact o2.elim
  |.v (.obj _ _),q,p=>simp only[q]at o2;exact o2.elim
  |.v (.cls _),q,p=>simp only[q]at o2;exact o2.elim
  |.v (.fn _ _),q,p=>simp only[q]at o2;exact o2.elim
  |.v (.loc _),q,p=>simp only[q]at o2;exact o2.elim
  |.m _,q,p=>simp only[q]at o2;exact o2.elim
def Jz {op op':CmpOp} {r r':R2} {f g:F2} {da db dc:P3} (hs:OpSim κ r f) (hs':OpSim κ r' g) (ho:OpR X (compareOp op) r) (ho':OpR X (compareOp op') r') (ha:PE X a (zq κ E da)) (hb:PE X b (zq κ E db)) (hc:PE X c (zq κ E dc))
 (hm:lastMarks [op,op'] [b,c]=false:=by with_unfolding_all rfl):PT X (.Compare a [op,op'] [b,c] pos) (zO κ E (tE (eChain f g da db dc))):=PTw (LP ho ho' ha hb hc hm) fun _ _ _ h=>NW hs hs' (DU h)
abbrev Po3:=S3->H3->Res (Option Int)
def kO (κ:Kx):Kd (Option Int) (Option Int):=fun _ F σ H' i j=>j=i/\Rel κ F σ H'
def km_O:BI (kO κ):=fun _ _ _ _ _ _ _ _ _ _ _ h=>h
abbrev toOf (κ:Kx) (E:XK) (d:Po3):TO:=tOf κ E (kO κ) d
def yb:Po3:=fun _ h=>.ok none h
def zQ (p:P3):Po3:=fun s h=>(p s h).bind fun f h1=>match f with
 |.x (.int i)=>.ok (some i) h1
 |_=>.no
def POw {e:Option Expr} {t t':TO} (h:PO X e t) (w:∀σ H Q,t' σ H Q->t σ H Q):PO X e t':=fun pins s σ H Q I q=>h pins s σ H Q I (w σ H Q q)
def qB:PO X none (toOf κ E yb):=POw Mq fun σ H Q ⟨F,rel,o⟩=>o F.β none H Ext.refl ⟨rfl,rel⟩
def qo {d:P3} (ha:PE X a (zq κ E d)):PO X (some a) (toOf κ E (zQ d)):=POw (Mr ha) fun σ H Q ⟨F,rel,o⟩=>
 (yh (K:=kP κ) km_O rel o).mono fun v H1 ⟨β1,h1,f,e1,⟨r1,rf⟩,o1⟩=>by
  match f,rf,o1 with
  |.x (.int i),rf,o1=>
   cases (show Rep κ β1 F.O H1 (.int i) v from rf)
   exact⟨i,rfl,o1 β1 _ H1 Ext.refl ⟨rfl,r1⟩⟩
def zv {α:Type} (xs:List α) (lo hi:Option Int):List α:=(xs.drop (HT.sIx xs.length 0 lo)).take (HT.sIx xs.length xs.length hi-HT.sIx xs.length 0 lo)
def oSl (s:S3) (h:H3) (lo hi:Option Int):Rf->Option Vl
 |.x (.tup xs)=>if HT.sIx xs.length 0 lo=0/\HT.sIx xs.length xs.length hi=xs.length then none else some (.v (.tup (zv xs lo hi)))
 |.x (.str z)=>if z.length<=sizeLine then some (.v (.str (Txt.slice z lo hi))) else none
 |f=>(rdl s h f).map fun xs=>.m (.lst (zv xs lo hi))
def zV (p:P3) (lo hi:Po3):E3:=fun s h=>(p s h).bind fun f h1=>(lo s h1).bind fun l h2=>(hi s h2).bind fun u h3=>opt h3 (oSl s h3 l u f)
def J0 {xs:List V3} {ys:List V} {lo hi:Option Int} (r:Reps κ F.β F.O H xs ys):Reps κ F.β F.O H (zv xs lo hi) (cutV ys lo hi):=by
 unfold zv cutV;rw[r.length];exact (r.drop _).take _
def yn {lo hi:Option Expr} {p2:Pos} {d:P3} {dl dh:Po3} (hK:X.K=κ.K) (he:PE X a (zq κ E d)) (hl:PO X lo (toOf κ E dl)) (hu:PO X hi (toOf κ E dh)):PE X (.Subscript a (.Slice lo hi none p2) pos) (zh κ E (zV d dl dh)):=
 yL (Ms (sl_tup.or (sl_list.or Ny)) he hl hu) fun σ H Q ⟨F,rel,o⟩=>
 (yh (K:=kP κ) zH rel o).mono fun v H1 ⟨β1,h1,f,e1,⟨r1,rf⟩,o1⟩=>
 (yh (F:=F.to β1 h1) (K:=kO κ) zH r1 o1).mono fun l H2 ⟨β2,h2,l',e2,⟨el,r2⟩,o2⟩=>
 (yh (F:=F.to β2 h2) (K:=kO κ) zH r2 o2).mono fun u H3 ⟨β3,h3,u',e3,⟨eu,r3⟩,o3⟩=>by
  subst el;subst eu;obtain⟨z,q,k⟩:=Out.opt (F:=F.to β3 h3) rfl o3;have rf3:RfR κ (F.to β3 h3) H3 f v:=RfR.ext (F:=F.to β2 h2) (β':=β3) (h':=h3) r2 e3 (RfR.ext (F:=F.to β1 h1) (β':=β2) (h':=h2) r1 e2 rf);rw[hK];have lists:(rdl F.s h3 f).map (fun xs=>Vl.m (.lst (zv xs l u)))=some z->rSlL κ.K v l u H3 Q:=fun q=>by
   cases q1:rdl F.s h3 f with
   |none=>rw[q1]at q;cases q
   |some xs=>
    rw[q1]at q;cases q;obtain⟨c,ys,rfl,sq,rs⟩:=CK (F:=F.to β3 h3) r3 rf3 q1;exact⟨c,ys,rfl,sq,fun p hp=>k _ _ (yN hp) (Post.lst r3 hp (J0 rs))⟩
  match f,rf3,q,lists with
  |.s i,rf3,q,lists=>exact .inr (.inl (lists q))
  |.x (.lst _),rf3,q,lists=>exact .inr (.inl (lists q))
  |.x (.scr _),rf3,q,lists=>exact .inr (.inl (lists q))
  |.x (.loc _),rf3,q,lists=>exact .inr (.inl (lists q))
  |.x (.tup xs),rf3,q,lists=>
   have q:(if HT.sIx xs.length 0 l=0/\HT.sIx xs.length xs.length u=xs.length then none else some (Vl.v (.tup (zv xs l u))))=some z:=q
   by_cases hw:HT.sIx xs.length 0 l=0/\HT.sIx xs.length xs.length u=xs.length
   .rw[Aa hw]at q;cases q
   .rw[Ab hw]at q;cases q
    cases (show Rep κ β3 F.O H3 (.tup xs) v from rf3) with
    |tup h1 h2 h3' h4=>exact .inl ⟨_,_,rfl,.of h1,by rw[<-h4.length];exact hw,fun p hp=>k _ _ (yN hp) (Post.tup r3 hp (J0 (F:=F.to β3 h3) h4))⟩
  |.x (.str zz),rf3,q,lists=>
   obtain⟨hz,rfl⟩:=qK q;cases (show Rep κ β3 F.O H3 (.str zz) v from rf3)
   exact .inr (.inr ⟨zz,rfl,hz,k _ H3 Ext.refl ⟨r3,.str _⟩⟩)
def wr3 (s:S3) (h:H3) (c:C3):Rf->Option (S3×H3)
 |.s i=>some (s.set i (some (.m c)),h)
 |.x (.loc n)=>some (s,h.set n c)
 |_=>none
def Rel.wrSlot {l:Addr} {c0 c':C3} {u:HO} (rel:Rel κ F σ H) (hl:F.l[i]? =some (some l)) (hs:F.s[i]? =some (some (.m c0))) (hc:CellR κ F.β F.O (zl H l u) c' l):
  Rel κ {F with s:=F.s.set i (some (.m c'))} σ (zl H l u):=by
 have hO:F.O l:= .inr (.inl (Al hl));have ex:=CQ (β:=F.β) (o:=u) (rel.heap.trk' l hO)
 refine⟨rel.heap.wrO hO hc.nt,?_,?_,rel.linj,rel.lt,rel.lo,rel.to,rel.tn,fun j y hj=>?_⟩
 .show (F.s.set i _).length=_;rw[A4];exact rel.slen
 .show F.l.length=(F.s.set i _).length;rw[A4];exact rel.llen
 .rcases ju hj with ⟨e1,e2⟩|⟨n,z⟩
  .subst e1;cases e2
   obtain⟨v,h1,a,h2,h3,_⟩:=rel.slot i _ hs;rw[hl]at h2;cases h2;exact⟨v,h1,l,hl,h3,hc⟩
  .obtain⟨v,h1,h2⟩:=rel.slot j y z
   refine⟨v,h1,?_⟩
   cases y with
   |v x=>exact Rep.ext ex (fun b hb=>by rw[hb];exact hO) (fun _ _ _ n=>n) h2
   |m c=>
    obtain⟨a,a1,a2,a3⟩:=h2
    refine⟨a,a1,a2,a3.ext ex (fun b hb=>by rw[hb];exact hO) (fun _ _ _ n=>n) fun w hw=>?_⟩
    rw[zI (fun z=>by subst z;exact n (rel.linj i j a hl a1))];exact hw
def J1 {β:AO} {l:Addr} {o:HO} {n:Nat} (hb:β[n]? =some (some l)) (ho:∃u,H l=some u):Ext No β H β (zl H l o):=
 ⟨fun a u ha hn _=>⟨by rw[zI (fun z=>by subst z;exact hn (Al hb))];exact ha,hn⟩,Af _,fun _ _ _ h=>h,fun a u ha=>by
  by_cases z:a=l
  .subst z;exact⟨o,yQ⟩
  .exact⟨u,by rw[zI z];exact ha⟩,nwb0⟩
def RelH.wrLoc {O:Addr->Prop} {β:AO} {h:H3} {l:Addr} {n:Nat} {c':C3} {u:HO} (r:RelH κ O β h H) (hb:β[n]? =some (some l)) (hc:CellR κ β O (zl H l u) c' l):RelH κ O β (h.set n c') (zl H l u):=by
 have ex:=J1 (o:=u) hb (r.btr' n l hb);have th:∀a w,H a=some w->(∀ys,w≠HO.tup ys)->∃w,zl H l u a=some w/\∀ys,w≠HO.tup ys:=fun a w q n=>by
  by_cases z:a=l
  .subst z;exact⟨u,yQ,hc.nt⟩
  .exact⟨w,by rw[zI z];exact q,n⟩
 refine⟨by rw[A4];exact r.len,r.inj,r.off,fun a ha=>let ⟨w,q,n⟩:=r.trk a ha;th a w q n,fun i a q=>let ⟨w,z,n⟩:=r.btr i a q;th a w z n,fun i c hi=>?_⟩
 rcases ju hi with ⟨e1,e2⟩|⟨ne,z⟩
 .subst e1;subst e2;exact .inr ⟨l,hb,hc⟩
 .refine (r.cell i c z).imp id fun ⟨a,ha,q⟩=>⟨a,ha,q.ext ex (fun _ z=>z.elim) (fun _ _ _ n=>n) fun w hw=>?_⟩
  rw[zI (fun z=>by subst z;exact ne (r.inj n i a hb ha))];exact hw
def J2 {f:Rf} {v:V} {xs ys:List V3} {s':S3} {h':H3} (ht:F.T=[]) (rel:Rel κ F σ H) (r:RfR κ F H f v) (e:rdm F.s F.h f=some xs) (hw:wr3 F.s F.h (.lst ys) f=some (s',h')):
  ∃l us,v=.ref l/\H l=some (.lst us)/\Reps κ F.β F.O H xs us/\∀ws,Reps κ F.β F.O H ys ws->∃F',SExt F H F' (zl H l (.lst ws))/\F'.s=s'/\F'.h=h'/\Rel κ F' σ (zl H l (.lst ws)):=by
 cases f with
 |s i=>
  cases hw;obtain⟨a,c,h1,h2,h3,h4⟩:=r;have e:rdl F.s F.h (.s i)=some xs:=e;simp only[rdl,h3]at e;cases c<;>simp at e
  subst e;obtain⟨us,h5,h6⟩:=h4;have hO:F.O a:= .inr (.inl (Al h1))
  refine⟨a,us,h2,h5,h6,fun ws hr=>⟨{F with s:=F.s.set i (some (.m (.lst ys)))},⟨⟨fun b u hb hn m=>⟨by rw[zI (fun z=>by subst z;exact m (Al h1))];exact hb,hn⟩,Af _,fun _ _ _ h=>h,(CQ (β:=F.β) ⟨_,h5⟩).there,nwb0⟩,fun _ h=>.inl h,rfl,ht⟩,rfl,rfl,rel.wrSlot h1 h3 ⟨ws,yQ,hr.ext (CQ (β:=F.β) ⟨_,h5⟩) (fun b hb=>by rw[hb];exact hO) fun _ _ _ n=>n⟩⟩⟩
 |x y=>
  cases y<;>simp[wr3]at hw
  case loc n=>
   obtain⟨rfl,rfl⟩:=hw;cases r with
   |loc h1 h2=>
    have e:rdl F.s F.h (.x (.loc n))=some xs:=e;simp only[rdl]at e;cases q:F.h[n]? with
    |none=>rw[q]at e;cases e
    |some c=>
     rw[q]at e;cases c<;>simp at e
     subst e
     rcases rel.heap.cell n _ q with z|⟨a,ha,us,h5,h6⟩
     .cases z
     .have ex:=fun o=>J1 (o:=o) ha ⟨_,h5⟩
      refine⟨a,us,h2 a ha,h5,h6,fun ws hr=>⟨F.to F.β (F.h.set n (.lst ys)),SExt.of0 ht (ex _),rfl,rfl,rel.next (ex _) (rel.heap.wrLoc ha ⟨ws,yQ,hr.ext0 (ex _)⟩)⟩⟩
abbrev FM:=List V3->List V3->Option (List V3×V3)
def mtO (op:FM) (p:P3) (a:A3) (k:S3->H3->V3->O3):D3:=fun s h=>(p s h).bindS fun f h1=>match rdm s h1 f with
 |none=>.no
 |some _=>(a s h1).bindS fun fs h2=>match vals3 fs,rdm s h2 f with
  |some vs,some xs=>match op xs vs with
   |some (ys,r)=>match wr3 s h2 (.lst ys) f with
    |some (s3,h3)=>k s3 h3 r
    |none=>.no
   |none=>.no
  |_,_=>.no
def qI (op:FM) (p:P3) (a:A3):D3:=mtO op p a fun s h _=>.nx s h
def GW (κ:Kx) (r:V->List V->Hp->VK->Prop) (op:FM):Prop:=∀(β:AO) (O:Addr->Prop) (H:Hp) (l:Addr) (xs ys vs:List V3) (us ws:List V) (rt:V3) (Q:VK),H l=some (.lst us)->Reps κ β O H xs us->Reps κ β O H vs ws->op xs vs=some (ys,rt)->
 (∀us' rt',Reps κ β O H ys us'->Rep κ β O H rt rt'->Q rt' (zl H l (.lst us')))->r (.ref l) ws H Q
def NY {r:V->List V->Hp->VK->Prop} {op:FM} {dp:P3} {da:A3} {k:S3->H3->V3->O3} (hs:GW κ r op) (rel:Rel κ F σ H) (ht:F.T=[]) (o:SOut κ E F H D (mtO op dp da k F.s F.h)) {Q:VK}
  (hQ:∀F' rt Fm Hm v H3,SExt Fm Hm F' H3->F'.s.length=F.s.length->Rel κ F' σ H3->Rep κ F'.β F'.O H3 rt v->SOut κ E Fm Hm D (k F'.s F'.h rt)->Q v H3):
  tBM κ.K "list" r (zq κ E dp) (zN κ E da) σ H Q:=by
 refine (bindS (K:=kP κ) rel ht o).mono fun v H1 ⟨β1,h1,f,e1,⟨r1,rf⟩,o1⟩=>?_
 cases q:rdm F.s h1 f with
 |none=>simp only[q]at o1;exact o1.elim
 |some xs0=>
  simp only[q]at o1;obtain⟨a,ys,rfl,ha,_⟩:=CN (F:=F.to β1 h1) r1 rf q
  refine⟨.inl ⟨rfl,ys,.of ha⟩,?_⟩
  have s1:SExt F H (F.to β1 h1) H1:=SExt.of0 ht e1
  refine (bindS (F:=F.to β1 h1) (K:=kA κ) r1 ht (SOut.move s1 o1)).mono fun ws H2 ⟨β2,h2,fs,e2,⟨r2,rfs⟩,o2⟩=>?_
  have rf2:=RfR.ext (F:=F.to β1 h1) (β':=β2) (h':=h2) r1 e2 rf;have s2:SExt (F.to β1 h1) H1 (F.to β2 h2) H2:=SExt.of0 (F:=F.to β1 h1) ht e2;cases q1:vals3 fs with
  |none=>simp only[q1]at o2;exact o2.elim
  |some vs=>
   cases q2:rdm F.s h2 f with
   |none=>simp only[q1,q2]at o2;exact o2.elim
   |some xs=>
    simp only[q1,q2]at o2;cases q3:op xs vs with
    |none=>simp only[q3]at o2;exact o2.elim
    |some w=>
     obtain⟨zs,rt⟩:=w;simp only[q3]at o2;cases q4:wr3 F.s h2 (.lst zs) f with
     |none=>simp only[q4]at o2;exact o2.elim
     |some w=>
      obtain⟨s3,h3⟩:=w;simp only[q4]at o2;obtain⟨l,us,ev,hl,rs,wk⟩:=J2 (F:=F.to β2 h2) ht r2 rf2 q2 q4;cases ev
      refine hs β2 F.O H2 a xs zs vs us ws rt _ hl rs (DT rfs q1) q3 fun us' rt' r1' r2'=>?_
      obtain⟨F',e',es,eh,rel'⟩:=wk us' r1'
      refine hQ F' rt (F.to β2 h2) H2 _ _ e' (by rw[rel'.slen,<-rel.slen]) rel' (Rep.sext (F:=F.to β2 h2) e' r2') ?_
      rw[es,eh];exact SOut.move s2 o2
def CS {es:List Expr} {name:Str} {id:String} {r:V->List V->Hp->VK->Prop} {op:FM} {dp:P3} {da:A3} (hs:GW κ r op) (hK:X.K=κ.K) (slot:Slot "list" name id) (hty:typeOf (.builtin id)=pure (.type "method_descriptor")) (hm:MtR X id r) (ho:PE X o (zq κ E dp)) (ha:PA X (e::es) (zN κ E da))
  (hbase:attributeBase o name X.env (eval o X.env)=eval o X.env:=by rfl)
  (hfew:((backTo cpos (starEach (e::es) X.env)).all (fun x=> !x.1) && (backToKw cpos (keywordEach [] X.env)).all (fun x=>x.1.isSome)
   && decide ((e::es).length+([]:List Keyword).length+(if ([]:List Keyword).isEmpty then 0 else 1)<30))=true:=by rfl)
  (hline:(apos.endLine==cpos.line)=true:=by rfl) (hst:SE X e es:=by rfl) (hplain:(backTo cpos (starEach es X.env)).any (·.1)=false:=by rfl)
  (hsw:swapsWith (.Call (.Attribute o name apos) (e::es) [] cpos) none pos.line X.env=pure false:=by rfl):
  PS X (.Expr (.Call (.Attribute o name apos) (e::es) [] cpos) pos) (zr κ E (qI op dp da)):=je (L6 (FE PySem.F.plainAttrs_list slot hty hm ho ha hbase hfew hline hst hplain) hsw) fun D σ H ⟨F,rel,ht,o⟩=>by
 rw[hK];exact NY hs rel ht o fun F' rt Fm Hm v H3 e' _ rel' _ o'=>o' F' σ H3 e' rfl rfl rel'
def qk:FM:=fun xs vs=>match vs with
 | [y]=>if xs.length<sizeLine then some (xs++[y],.non) else none
 |_=>none
def CT:GW κ IH qk:=fun β O H l xs ys vs us ws rt Q hl rx rv e k=>by
 unfold qk at e
 split at e
 .obtain⟨h,e⟩:=qK e
  cases e;cases rv with
  |cons a t=>cases t;exact⟨l,us,_,rfl,rfl,hl,by rw[<-rx.length];exact h,k _ _ (rx.append (.cons a .nil)) .non⟩
 .cases e
end
section
variable {X:Cx} {κ:Kx} {E:XK} {F F':Fr} {σ σ':L2.St} {H H1 H':Hp} {Q:VK} {p:Addr} {e a b c o:Expr} {pos apos np cpos:Pos} {i:Nat} {D:Ends}
def qQ (p i:P3) (e:E3):D3:=fun s h=>(e s h).bindS fun r h1=>match r.fz with
 |none=>.no
 |some y=>(p s h1).bindS fun f h2=>(i s h2).bindS fun j h3=>match j,rdm s h3 f with
  |.x (.int k),some xs=>match qE xs.length k with
   |some n=>match wr3 s h3 (.lst (xs.set n y)) f with
    |some (s',h')=>.nx s' h'
    |none=>.no
   |none=>.no
  |_,_=>.no
def NZ {dp di:P3} {d:E3} (h:zr κ E (qQ dp di d) D σ H):tAsg (zh κ E d) (gSub (zq κ E dp) (zq κ E di) GJ) D σ H:=by
 obtain⟨F,rel,ht,o⟩:=h
 refine (bindS (K:=kE κ) rel ht o).mono fun v H1 ⟨β1,h1,r,e1,p1,o1⟩=>?_
 cases z:r.fz with
 |none=>simp only[z]at o1;exact o1.elim
 |some y=>
  simp only[z]at o1;obtain⟨r1,ry⟩:=Post.fz p1 z;have s1:SExt F H (F.to β1 h1) H1:=SExt.of0 ht e1
  refine (bindS (F:=F.to β1 h1) (K:=kP κ) r1 ht (SOut.move s1 o1)).mono fun ov H2 ⟨β2,h2,f,e2,⟨r2,rf⟩,o2⟩=>?_
  have s2:SExt (F.to β1 h1) H1 (F.to β2 h2) H2:=SExt.of0 (F:=F.to β1 h1) ht e2
  refine (bindS (F:=F.to β2 h2) (K:=kP κ) r2 ht (SOut.move s2 o2)).mono fun iv H3 ⟨β3,h3,j,e3,⟨r3,rj⟩,o3⟩=>?_
  have s3:SExt (F.to β2 h2) H2 (F.to β3 h3) H3:=SExt.of0 (F:=F.to β2 h2) ht e3;have rf3:=RfR.ext (F:=F.to β2 h2) (β':=β3) (h':=h3) r2 e3 rf;have ry3:Rep κ β3 F.O H3 y v:=(Rep.ext0 e3 (Rep.ext0 e2 ry))
  match j,rj,o3 with
  |.s _,rj,o3=>exact o3.elim
  |.x (.int k),rj,o3=>
   cases q:rdm F.s h3 f with
   |none=>simp only[q]at o3;exact o3.elim
   |some xs=>
    simp only[q]at o3;cases q2:qE xs.length k with
    |none=>simp only[q2]at o3;exact o3.elim
    |some n=>
     simp only[q2]at o3;cases q3:wr3 F.s h3 (.lst (xs.set n y)) f with
     |none=>simp only[q3]at o3;exact o3.elim
     |some w=>
      obtain⟨s',h'⟩:=w;simp only[q3]at o3;obtain⟨l,us,ev,hl,rs,wk⟩:=J2 (F:=F.to β3 h3) ht r3 rf3 q q3;subst ev;cases (show Rep κ β3 F.O H3 (.int k) iv from rj)
      obtain⟨F',e',es,eh,rel'⟩:=wk (us.set n v) (rs.set ry3 n);exact⟨l,us,k,n,rfl,rfl,hl,by rw[<-rs.length];exact q2,SOut.move s3 o3 F' σ _ e' es eh rel'⟩
def GX {tp:Pos} {ii:Expr} {dp di:P3} {d:E3} (he:PE X e (zh κ E d)) (ho:PE X o (zq κ E dp)) (hi:PE X ii (zq κ E di))
 (hh:∀{te to ti:TE},PE X e te->PE X o to->PE X ii ti->PS X (.Assign [.Subscript o ii tp] e pos) (tAsg te (gSub to ti GJ))):PS X (.Assign [.Subscript o ii tp] e pos) (zr κ E (qQ dp di d)):=je (hh he ho hi) fun D σ H h=>NZ h
end
section
variable {X:Cx} {κ:Kx} {E:XK} {F F':Fr} {σ σ':L2.St} {H H1 H':Hp} {Q:VK} {p:Addr} {e a b c o:Expr} {pos apos np cpos:Pos} {i:Nat} {D:Ends} {β:AO} {O:Addr->Prop}
open Classical in
def iS (p:P3):I3:=fun s h=>(p s h).bind fun f h1=>match f with
 |.x (.str z)=>.ok ⟨[],z.cps.toList.map fun c=>.str ⟨#[c]⟩,fun _=>True⟩ h1
 |_=>.no
def GY {tg l:Expr} {d:P3} (hl:PE X l (zq κ E d)):PI X tg l (yo κ E (iS d)):=PIw (Nx hl) fun σ H R ⟨F,rel,o⟩=>
 (yh (K:=kP κ) km_I rel o).mono fun v H1 ⟨β1,h1,f,e1,⟨r1,rf⟩,o1⟩=>by
  match f,rf,o1 with
  |.x (.str z),rf,o1=>
   cases (show Rep κ β1 F.O H1 (.str z) v from rf)
   refine⟨z,rfl,o1 β1 _ H1 Ext.refl ⟨r1,[],.nil,fun F' σ' H' rel' _ _ i=>?_⟩⟩
   have el:(z.cps.toList.map fun c=>V3.str ⟨#[c]⟩).length=z.length:=by simp[Str.length]
   refine⟨fun hi=>⟨show i<z.length by rw[el]at hi;exact hi,fun x H'' ⟨e1,c,hc,e2⟩=>?_⟩,fun hi=>show z.length<=i by rw[el]at hi;exact hi⟩
   subst e1;subst e2
   refine⟨.str ⟨#[c]⟩,?_,Ext.refl,rel',.str _⟩
   rw[A2,C7,hc];rfl
def yy (neg:Bool):F2:=fun _ _ x y=>match x,y with
 |.x (.str i),.x (.str j)=>some (.v (.bl (if neg then !(!(Builtin.Str.occurrences j i 0 j.length 1).isEmpty) else !(Builtin.Str.occurrences j i 0 j.length 1).isEmpty)))
 |_,_=>none
def GZ:OpSim κ (fun x y H Q=> ∃i j,x=.str i/\y=.str j/\Q (.bl (!(Builtin.Str.occurrences j i 0 j.length 1).isEmpty)) H) (yy false):=fun F σ H x y z v w Q rel rx ry e k=>by
 unfold yy at e
 split at e
 .rename_i i j
  cases e;cases (show Rep κ F.β F.O H (.str i) v from rx)
  cases (show Rep κ F.β F.O H (.str j) w from ry)
  exact⟨i,j,rfl,rfl,k _ H Ext.refl ⟨rel,.bl _⟩⟩
 .cases e
end
section
variable {X:Cx} {κ:Kx} {E:XK} {F F':Fr} {σ σ':L2.St} {H H1 H':Hp} {Q:VK} {p:Addr} {e a b c o:Expr} {es:List Expr} {pos apos np cpos:Pos} {i:Nat} {D:Ends}
def yi {A:Around} {k:Nat} (hr:Room k A):A.units+9<cLine:=by have:=hr.units;lia
def CU:∀xs s s',gsNil xs s=some s'->xs.length=0:=fun xs s s' e=>by
 cases xs with
 |nil=>rfl
 |cons _ _=>cases e
def yW {g:G3} {gs:Gs3} {n:Nat} (h:∀xs s s',gs xs s=some s'->xs.length=n):∀xs s s',gsCons g gs xs s=some s'->xs.length=n+1:=fun xs s s' e=>by
 cases xs with
 |nil=>cases e
 |cons x r=>
  simp only[gsCons]at e;cases q:g x s with
  |none=>rw[q]at e;cases e
  |some s1=>rw[q]at e;rw[A9,h r s1 s' e]
def sAug (i:Nat) (f:F2) (p:P3):D3:=fun s h=>match s[i]? with
 |some (some (.v x))=>(p s h).bindS fun y h1=>match f s h1 (.x x) y with
  |some (.v z)=>.nx (s.set i (some (.v z))) h1
  |_=>.no
 |_=>.no
def eGl (e:E3):E3:=fun s h=>(e s h).bind fun r h1=>match r with
 |.m c=>.ok (.v (.loc h1.length)) (h1++[c])
 |.v x=>.ok (.v x) h1
mutual
theorem Rep.grow {β:AO} {O O':Addr->Prop} {x:Addr} (hx:O x) (hs:∀a,O' a->O a):∀{v:V3} {w:V},Rep κ β O H v w->Rep κ (β++[some x]) O' H v w
 |_,_,.non=>.non
 |_,_,.bl b=>.bl b
 |_,_,.int i=>.int i
 |_,_,.str x=>.str x
 |_,_,.ty x=>.ty x
 |_,_,.tup h1 h2 h3 r=>.tup h1 (fun z=>(A0.mp z).elim h2 fun z=>h3 (by have:=Ay.mp z;cases this;exact hx)) (fun z=>h3 (hs _ z)) (Reps.grow hx hs r)
 |_,_,.lst h1 h2 h3 r=>.lst h1 (fun z=>(A0.mp z).elim h2 fun z=>h3 (by have:=Ay.mp z;cases this;exact hx)) (fun z=>h3 (hs _ z)) (Reps.grow hx hs r)
 |_,_,.scr h1 h2 h3=>.scr h1 (fun z=>(A0.mp z).elim h2 fun z=>h3 (by have:=Ay.mp z;cases this;exact hx)) (fun z=>h3 (hs _ z))
 |_,_,.scrK h=>.scrK h
 |_,_,.dK h1 h2 h3 r=>.dK h1 (fun z=>(A0.mp z).elim h2 fun z=>h3 (by have:=Ay.mp z;cases this;exact hx)) (fun z=>h3 (hs _ z)) (RepP.grow hx hs r)
 |_,_,.dT h1 h2 h3 r=>.dT h1 (fun z=>(A0.mp z).elim h2 fun z=>h3 (by have:=Ay.mp z;cases this;exact hx)) (fun z=>h3 (hs _ z)) (RepP.grow hx hs r)
 |_,_,.obj h0 h1 h2 h3 r=>.obj h0 h1 (fun z=>(A0.mp z).elim h2 fun z=>h3 (by have:=Ay.mp z;cases this;exact hx)) (fun z=>h3 (hs _ z)) (RepP.grow hx hs r)
 |_,_,.cls h=>.cls h
 |_,_,.exc h0 h1 h2 h3=>.exc h0 h1 (fun z=>(A0.mp z).elim h2 fun z=>h3 (by have:=Ay.mp z;cases this;exact hx)) (fun z=>h3 (hs _ z))
 |_,_,.loc h1 h2=>.loc (by rw[Am];lia) fun a ha=>h2 a (by rw[A8 h1]at ha;exact ha)
theorem Reps.grow {β:AO} {O O':Addr->Prop} {x:Addr} (hx:O x) (hs:∀a,O' a->O a):∀{v:List V3} {w:List V},Reps κ β O H v w->Reps κ (β++[some x]) O' H v w
 |_,_,.nil=>.nil
 |_,_,.cons a r=>.cons (Rep.grow hx hs a) (Reps.grow hx hs r)
theorem RepP.grow {β:AO} {O O':Addr->Prop} {x:Addr} (hx:O x) (hs:∀a,O' a->O a):∀{α:Type} {v:List (α×V3)} {w:List (α×V)},RepP κ β O H v w->RepP κ (β++[some x]) O' H v w
 |_,_,_,.nil=>.nil
 |_,_,_,.cons a r=>.cons (Rep.grow hx hs a) (RepP.grow hx hs r)
end
theorem CellR.grow {β:AO} {O O':Addr->Prop} {x:Addr} (hx:O x) (hs:∀a,O' a->O a) {c:C3} {a:Addr} (r:CellR κ β O H c a):CellR κ (β++[some x]) O' H c a:=by
 cases c with
 |lst xs=>obtain⟨_,q,r⟩:=r;exact⟨_,q,r.grow hx hs⟩
 |dK xs=>obtain⟨_,q,r⟩:=r;exact⟨_,q,r.grow hx hs⟩
 |dT xs=>obtain⟨_,q,r⟩:=r;exact⟨_,q,r.grow hx hs⟩
 |ins c fs=>obtain⟨_,_,_,k,q,r⟩:=r;exact⟨_,_,_,k,q,r.grow hx hs⟩
 |dead=>exact r.elim
theorem Rel.cell {c:C3} {x:Addr} (r1:Rel κ (F.with x) σ H) (hc:CellR κ F.β (F.with x).O H c x):Rel κ (F.to (F.β++[some x]) (F.h++[c])) σ H/\Rep κ (F.β++[some x]) F.O H (.loc F.h.length) (.ref x):=by
 have hl:F.β.length=F.h.length:=r1.heap.len;have nx:some x∉F.β:=r1.offp;have nO: ¬F.O x:=r1.apart;have hxO:(F.with x).O x:= .inl An
 have hs:∀a,F.O a->(F.with x).O a:=fun a ha=>Fr.O_with ha
 have rd:=r1.drop;have last:∀{i:Nat} {a:Addr},F.β.length<=i->(F.β++[some x])[i]? =some (some a)->a=x/\i=F.β.length:=fun {i a} hi h=>by
  have h0:=(As.mp h).1;rw[Bp hi]at h;have:=Al h;simp at this;simp at h0;exact⟨this,by lia⟩
 refine⟨⟨⟨?_,fun i j a h1 h2=>?_,fun a ha z=>?_,rd.heap.trk,fun i a q=>?_,fun i c' hc'=>?_⟩,rd.slen,rd.llen,rd.linj,rd.lt,rd.lo,rd.to,rd.tn,fun i y hy=>?_⟩,?_⟩
 .show (F.β++[some x]).length=(F.h++[c]).length;simp[hl]
 .have h1:(F.β++[some x])[i]? =some (some a):=h1
  have h2:(F.β++[some x])[j]? =some (some a):=h2
  rcases C8 i F.β.length with hi|hi<;>rcases C8 j F.β.length with hj|hj
  .rw[A8 hi]at h1;rw[A8 hj]at h2;exact r1.heap.inj i j a h1 h2
  .obtain⟨rfl,_⟩:=last hj h2;rw[A8 hi]at h1;exact absurd (Al h1) nx
  .obtain⟨rfl,_⟩:=last hi h1;rw[A8 hj]at h2;exact absurd (Al h2) nx
  .have a1:=(last hi h1).2;have a2:=(last hj h2).2;lia
 .have z:some a∈F.β++[some x]:=z
  rcases A0.mp z with z|z
  .exact rd.heap.off a ha z
  .have:=Ay.mp z;cases this;exact nO ha
 .have q:(F.β++[some x])[i]? =some (some a):=q
  rcases C8 i F.β.length with hi|hi
  .rw[A8 hi]at q;exact r1.heap.btr i a q
  .rw[(last hi q).1];exact r1.heap.trk x hxO
 .have hc':(F.h++[c])[i]? =some c':=hc'
  rcases C8 i F.h.length with hi|hi
  .rw[A8 hi]at hc'
   refine (r1.heap.cell i c' hc').imp id fun ⟨a,ha,q⟩=>⟨a,?_,q.grow hxO hs⟩
   show (F.β++[some x])[i]? =_;rw[A8 (by lia)];exact ha
  .rw[Bp hi]at hc'
   have h0:=(As.mp hc').1;simp at h0;rw[h0]at hc';cases hc';have ei:i=F.h.length:=by lia
   subst ei
   refine .inr ⟨x,?_,hc.grow hxO hs⟩
   show (F.β++[some x])[F.h.length]? =_;rw[<-hl];simp
 .obtain⟨v,h1,h2⟩:=r1.slot i y hy
  refine⟨v,h1,?_⟩
  cases y with
  |v y=>exact Rep.grow hxO hs h2
  |m c=>obtain⟨a,a1,a2,a3⟩:=h2;exact⟨a,a1,a2,a3.grow hxO hs⟩
 .refine .loc (by simp[hl]) fun a ha=>?_
  rw[<-hl]at ha;simp at ha;rw[ha]
def J3 {d:E3} {σ:L2.St} {H:Hp} {Q:VK} (h:zh κ E (eGl d) σ H Q):zh κ E d σ H Q:=by
 obtain⟨F,rel,o⟩:=h
 refine⟨F,rel,?_⟩
 unfold eGl at o;cases q:d F.s F.h with
 |no=>rw[q]at o;exact o
 |ex x h1=>rw[q]at o;exact o
 |ok r h1=>
  rw[q]at o;intro β1 v H1 e1 p1;cases r with
  |v x=>exact o β1 v H1 e1 p1
  |m c=>
   obtain⟨x,rfl,r1,hc,hn⟩:=p1;obtain⟨r2,rl⟩:=Rel.cell (F:=F.to β1 h1) r1 hc;have nx:some x∉β1:=r1.offp
   refine o (β1++[some x]) (.ref x) H1 ⟨fun a u ha hb m=>?_,by rw[Am];have:=e1.len;lia,fun i a hi hh=>?_,e1.there,fun i a hi hh=>?_⟩ ⟨r2,rl⟩
   .obtain⟨q1,q2⟩:=e1.keep a u ha hb m
    refine⟨q1,fun z=>?_⟩
    rcases A0.mp z with z|z
    .exact q2 z
    .have:=Ay.mp z;cases this
     rw[hn]at ha;cases ha
   .rw[A8 (by have:=e1.len;lia)]at hh
    exact e1.bet i a hi hh
   .rcases C8 i β1.length with h2|h2
    .rw[A8 h2]at hh;exact e1.nwb i a hi hh
    .rw[Bp h2]at hh
     have:a=x:=by have:=Al hh;simp at this;exact this
     rw[this];exact hn
def r_gl {d:E3} (h:PE X e (zh κ E d)):PE X e (zh κ E (eGl d)):=yL h fun _ _ _=>J3
end
section
variable {X:Cx} {κ:Kx} {E:XK} {F F':Fr} {σ σ':L2.St} {H H1 H':Hp} {Q:VK} {p:Addr} {e a b c o:Expr} {es:List Expr} {pos apos np cpos:Pos} {i:Nat} {D:Ends}
def str3:V3->Option Str
 |.str x=>some x
 |_=>none
theorem J4:∀{xs:List V3} {ys:List V} {bs:List Str},Reps κ F.β F.O H xs ys->mapO str3 xs=some bs->ys=bs.map V.str
 |_,_,_,.nil,e=>by cases e;rfl
 |x::xs,y::ys,bs,.cons a r,e=>by
  obtain⟨b,l,h1,h2,rfl⟩:=Ju e;cases x<;>simp[str3]at h1
  subst h1;cases a;rw[Ax,J4 r h2]
theorem carried_strs:∀{l:List Str} {us:List Value},Vals (l.map V.str) us->CarriedAll us (l.map fun a=>PyData.str a)
 | [],_,r=>by cases r;exact .nil
 |x::l,_,r=>by
  rw[Ax]at r;cases r with
  |cons a t=>
   obtain⟨tk,rfl⟩:=a;exact .cons (.str _ _) (carried_strs t)
end
section
variable {X:Cx} {κ:Kx} {E:XK} {a b e o tg:Expr} {pos np apos:Pos} {i:Nat}
def zb (i:Nat) {x:Str} {pos:Pos} (hN:X.N[i]? =some x:=by rfl) (hv:Vis X.env.scope x:=by first|exact Or.inl rfl|exact Or.inr (Or.inl rfl)|exact Or.inr (Or.inr rfl)) (hd:(x==("__debug__" :Str))=false:=by decide)
 (hcd:(x==("__classdict__" :Str))=false:=by decide):PE X (.Name x pos) (zq κ E (pV i)):=rp_v (pv i hN hv hd hcd)
def zk {i j pos}:PE X (.Constant (.int i) j pos) (zq κ E (kJ i)):=za N0
def EX {da db:P3} (ha:PE X a (zq κ E da)) (hb:PE X b (zq κ E db)) (hK:X.K=κ.K:=by rfl) (hm:FD b:=by exact fun _ _=>rfl):PE X (.Subscript a b pos) (zh κ E (eOp zJ da db)):=r_ix Jm (Jl hK) hm ha hb
def qq {da db:P3} (ha:PE X a (zq κ E da)) (hb:PE X b (zq κ E db)) (hK:X.K=κ.K:=by rfl) (hm:FD b:=by exact fun _ _=>rfl):PE X (.Subscript a b pos) (zq κ E (pE (eOp zJ da db))):=za (r_ix Jm (Jl hK) hm ha hb)
def zU (i:Nat) {x:Str} {pos':Pos} {d:E3} (hN:X.N.Nodup) (he:PE X e (zh κ E d)) (hi:X.N[i]? =some x:=by rfl) (hx:jq X.env.scope x:=by exact Or.inl rfl) (hs:swapsWith e (some (.Name x pos')) pos.line X.env=pure false:=by rfl)
 (hf:X.fn x=true\/X.env.scope.names.lookup x=some .local:=by first|exact .inl rfl|exact .inr rfl|assumption):PS X (.Assign [.Name x pos'] e pos) (zr κ E (sSet i d)):=N3 hN hi hx he hs hf
def yC (i:Nat) {x:Str} {pos:Pos} (hN:X.N.Nodup) (hi:X.N[i]? =some x:=by rfl) (hx:jq X.env.scope x:=by exact Or.inl rfl) (hf:X.fn x=true\/X.env.scope.names.lookup x=some .local:=by first|exact .inl rfl|exact .inr rfl|assumption):PG X (.Name x pos) (yj κ (gN i)):=Ji (Im hN hi hx hf)
def AA {x:Str} {pos:Pos} (i:Nat) (N:List Str) (nd:N.Nodup:=by decide+kernel) (eN:X.N=N:=by rfl) (hi:N[i]? =some x:=by rfl) (hx:jq X.env.scope x:=by exact Or.inl rfl) (hl:X.env.scope.names.lookup x=some .local:=by rfl):PG X (.Name x pos) (yj κ (gN i)):=Ji (pgc i N nd eN hi hx hl)
def jf {iter:Expr} {body:List Stmt} {it:I3} {g:G3} {b:D3} (hi:PI X tg iter (yo κ E it)) (hg:PG X tg (yj κ g)) (hb:yB X body (zr κ E b)) (hp:PassesOwn (model X.prog X.w) X.A X.env X.xe:=by exact PassesOwn.leaving) (hc:X.calm=true:=by rfl)
 (hs:∀x,foldedSetIterable iter X.env x=pure x:=by intro _;rfl):PS X (.For tg iter body [] pos) (zr κ E (zw it g b)):=N8 hp hc hi hg hb hs
def AC {l:Expr} {d:P3} (hl:PE X l (zq κ E d)) (hK:X.K=κ.K:=by rfl):PI X tg l (yo κ E (iL d)):=NA hK hl
def zG {N P:List Str} {sc:Scope} (k1:sc.kind=.function:=by rfl) (k2:sc.isCoroutine=false:=by rfl) (k3:sc.isGenerator=false:=by rfl) (k4:N.Nodup:=by decide+kernel) (k5:N.take P.length=P:=by rfl)
 (k6:∀x∈P,sc.names.lookup x=some .local\/sc.names.lookup x=some .cell:=by decide+kernel) (k7:∀y∈sc.names,y.2≠ .free:=by decide+kernel):FnScope N P sc:=⟨k1,k2,k3,k4,k5,k6,k7⟩
def yf {x:Str} {st:Stmt} {es:List Expr} {f:F3} {t:A3} {k k0:Nat} {fa:Addr} {fd:FuncData} {ps:List Str} {n:Nat} (hf:zC f n) (Fk:FnOk X.prog X.w X.K X.mg X.base (XT X.prog X.w) k fa fd ps (zx κ n f)) (hr:Room k0 X.A) (d:Dfn X.K X.mg x st ps fa fd) (ha:PA X (e::es) (zN κ E t)) (hx:DQ (XT X.prog X.w) X E:=by exact MN) (hk:k<=k0:=by decide) (hg:Gl X x:=by rfl)
 (hdb:(x==("__debug__" :Str))=false:=by decide) (he:SE X e es:=by rfl) (hpl:BA X pos es:=by rfl):
 PE X (.Call (.Name x np) (e::es) [] pos) (zh κ E (eCall f t)):=DW hf Fk (hr.mono hk) hg d.g d.F.kp d.b hx ha hdb he hpl
def yK {x:Str} {es:List Expr} {t:A3} {id:String} {r:List V->Hp->VK->Prop} {f:FB} (hs:qD κ r f) (hc:yM X (.builtin id) r) (hm:X.mg x=none) (hv:bootBuiltins x=some (.builtin id)) (ha:PA X (e::es) (zN κ E t)) (hg:Gl X x:=by rfl) (hn:x≠"__name__" :=by decide) (hdb:(x==("__debug__" :Str))=false:=by decide)
 (he:SE X e es:=by rfl) (hpl:BA X pos es:=by rfl):
 PE X (.Call (.Name x np) (e::es) [] pos) (zh κ E (eB f t)):=r_b hs hc hg hm hv ha hn hdb he hpl
end
def spL (K:FG):Sp:=fun vs H Q _=> ∃(a:Addr) (ns:List Int),vs=[.ref a]/\ns.length<=63/\SqL K H a (ns.map V.int)/\Only H/\∀H',Q (.bl true) H'
def spL_of {κ:Kx} {f:F3} (h:∀ns:List Int,ns.length<=63->∃h',f [.scr ns] []=.ok (.v (.bl true)) h') {vs:List V} {H:Hp} {Q:VK} {E:XK} (q:spL κ.K vs H Q E):zx κ 1 f vs H Q E:=by
 obtain⟨a,ns,rfl,hn,hS,hO,hQ⟩:=q;obtain⟨h',e⟩:=h ns hn
 refine⟨fun _=>False,[],[.scr ns],[],rfl,⟨rfl,fun i j a h=>by simp at h,fun a h=>h.elim,fun a h=>h.elim,fun i a h=>by simp at h,fun i c h=>by simp at h⟩,.cons ?_ .nil,?_⟩
 .rcases hS with hS|hS
  .rcases hS with hS|⟨o,hS⟩
   .rcases hO a with z|⟨o,xs,z⟩
    .rw[hS]at z;cases z
    .rw[hS]at z;cases z
   .exact .scr hS (by simp) fun z=>z
  .exact .scrK hS
 .rw[e]
  intro β' v H' ex p;obtain⟨_,r⟩:=p;cases r;exact hQ H'
def noX {P:Program} {w:World} {H:Hp} {s:Shared} {e:Value} {s':Shared} (h:XT P w [] H s (fun _ _ _=>False) e s'):False:=by
 obtain⟨_,_,_,_,_,_,_,_,_,_,_,_,_,_,_,q⟩:=h;exact q
end L3
namespace L3
open PySem L2
def AS {a b:D3} {s s1:S3} {h h1:H3} (e:a s h=.nx s1 h1):sSeq a b s h=b s1 h1:=by unfold sSeq;rw[e]
def Oa {ok:H3->Prop} {g:G3} {b:D3} {h:H3} {Q:O3->Prop} (I:Nat->S3->Prop) {xs:List V3} {s:S3} (hok:ok h) (h0:I 0 s)
  (step:∀(i:Nat) x s,xs[i]? =some x->I i s->∃s1,g x s=some s1/\((∃s2,(b s1 h=.nx s2 h\/b s1 h=.ct s2 h)/\I (i+1) s2)\/(∃r h2,b s1 h=.rt r h2/\Q (.rt r h2))\/∃s2,b s1 h=.bk s2 h/\Q (.nx s2 h)))
  (done:∀s,I xs.length s->Q (.nx s h)):Q (zA ok g b xs s h):=by
 have gen:∀(n i:Nat) (s:S3),n=xs.length-i->i<=xs.length->I i s->Q (zA ok g b (xs.drop i) s h):=by
  intro n
  induction n with
  |zero=>
   intro i s hn hi hI;have:i=xs.length:=by lia
   subst this;rw[B4];unfold zA;rw[Aa hok];exact done s hI
  |succ n ih=>
   intro i s hn hi hI;have hlt:i<xs.length:=by lia
   rw[Ct hlt];unfold zA;rw[Aa hok];obtain⟨s1,hg,hs⟩:=step i xs[i] s (yq hlt) hI;simp only[hg]
   rcases hs with ⟨s2,hb,hI2⟩|⟨r,h2,hb,hq⟩|⟨s2,hb,hq⟩
   .rcases hb with hb|hb<;>simp only[hb]<;>exact ih (i+1) s2 (by lia) hlt hI2
   .simp only[hb];exact hq
   .simp only[hb];exact hq
 exact gen _ 0 s rfl (Bk _) h0
def Ob {ok:H3->Prop} {g:G3} {b:D3} {h:H3} (I:Nat->S3->Prop) {xs:List V3} {s:S3} (hok:ok h) (h0:I 0 s)
  (step:∀(i:Nat) x s,xs[i]? =some x->I i s->∃s1 s2,g x s=some s1/\b s1 h=.nx s2 h/\I (i+1) s2):∃s',zA ok g b xs s h=.nx s' h/\I xs.length s':=by
 refine Oa (Q:=fun o=> ∃s',o=.nx s' h/\I xs.length s') I hok h0 (fun i x s hx hI=>?_) fun s hI=>⟨s,rfl,hI⟩
 obtain⟨s1,s2,h1,h2,h3⟩:=step i x s hx hI;exact⟨s1,h1,.inl ⟨s2,.inl h2,h3⟩⟩
def J5 {α:Type} {ok:H3->Prop} {g:G3} {e:E3} {h:H3} (I:S3->Prop) (enc:α->V3) (f:α->V3) (hok:ok h) {l:List α} (hl:l.length<=sizeLine)
  (step:∀a s,a∈l->I s->∃s1 r,g (enc a) s=some s1/\I s1/\e s1 h=.ok r h/\r.fz=some (f a)) {s:S3} (h0:I s):
  qx ok g tTru e (l.map enc) [] s h=.ok (l.map f) h:=by
 have gen:∀(l:List α) (acc:List V3) (s:S3),acc.length+l.length<=sizeLine->(∀a s,a∈l->I s->∃s1 r,g (enc a) s=some s1/\I s1/\e s1 h=.ok r h/\r.fz=some (f a))->I s->qx ok g tTru e (l.map enc) acc s h=.ok (acc++l.map f) h:=by
  intro l
  induction l with
  |nil=>intro acc s _ _ _;rw[Bq];unfold qx;rw[Aa hok];simp
  |cons x r ih=>
   intro acc s hl st hI;rw[Ax];unfold qx;rw[Aa hok];obtain⟨s1,v,h1,h2,h5,h6⟩:=st x s An hI;rw[A9]at hl;simp only[h1,tTru,h5,h6,Aa (show acc.length<sizeLine by lia)]
   rw[ih (acc++[f x]) s1 (by rw[Am,List.length_singleton];lia) (fun x s hx=>st x s (Av _ hx)) h2]
   simp
 have:=gen l [] s (by simpa using hl) step h0
 simpa using this
def Oc (l:List Bool):mapO bl3 (l.map .bl)=some l:=by
 have:=GU (f:=bl3) (g:=V3.bl) (k:=id) (fun _=>rfl) l
 simpa using this
def at0 {α:Type} {x:α} {r:List α}:atI (x::r) (0:Int)=some x:=jm (j:=0) rfl
def at1 {α:Type} {x y:α} {r:List α}:atI (x::y::r) (1:Int)=some y:=jm (j:=1) rfl
def at2 {α:Type} {x y z:α} {r:List α}:atI (x::y::z::r) (2:Int)=some z:=jm (j:=2) rfl
def at3 {α:Type} {x y z u:α} {r:List α}:atI (x::y::z::u::r) (3:Int)=some u:=jm (j:=3) rfl
def at4 {α:Type} {x y z u v:α} {r:List α}:atI (x::y::z::u::v::r) (4:Int)=some v:=jm (j:=4) rfl
def Eb {i j:Int} (h: -(2 ^ 64)<i/\i<2 ^ 64):CMul i j:= .inl h
def Ha {h:H3} {n:Nat} {x y:V3} {a b:V} (hx:qj h x=.f a) (hy:qj h y=.f b):yv h n x y=some (eqV a b):=by
 cases n<;>simp only[yv,hx,hy]
def Hb {h:H3} {n:Nat} {i j:Int}:yv h n (.int i) (.int j)=some (decide (i=j)):=by
 rw[Ha (a:= .int i) (b:= .int j) rfl rfl];congr 1
def Hc {h:H3} {n:Nat} {i j:Str}:yv h n (.str i) (.str j)=some (decide (i=j)):=by
 rw[Ha (a:= .str i) (b:= .str j) rfl rfl];congr 1
def Od {h:H3} {n:Nat} {i j:Bool}:yv h n (.bl i) (.bl j)=some (decide (i=j)):=by
 rw[Ha (a:= .bl i) (b:= .bl j) rfl rfl];congr 1
def nx_ite {c:Prop} [Decidable c] {a b:S3} {h:H3}:(if c then O3.nx a h else O3.nx b h)=O3.nx (if c then a else b) h:=by split<;>rfl
def rt_ite {c:Prop} [Decidable c] {a b:Vl} {h:H3}:(if c then O3.rt a h else O3.rt b h)=O3.rt (if c then a else b) h:=by split<;>rfl
def ok_ite {α:Type} {c:Prop} [Decidable c] {a b:α} {h:H3}:(if c then Res.ok a h else Res.ok b h)=Res.ok (if c then a else b) h:=by split<;>rfl
def cons_ite {α:Type} {c:Prop} [Decidable c] {a b:α} {x y:List α}:(if c then a::x else b::y)=(if c then a else b)::(if c then x else y):=by split<;>rfl
def some_ite {α:Type} {c:Prop} [Decidable c] {a b:α}:(if c then some a else some b)=some (if c then a else b):=by split<;>rfl
def v_ite {c:Prop} [Decidable c] {a b:V3}:(if c then Vl.v a else Vl.v b)=Vl.v (if c then a else b):=by split<;>rfl
def int_ite {c:Prop} [Decidable c] {a b:Int}:(if c then V3.int a else V3.int b)=V3.int (if c then a else b):=by split<;>rfl
def bl_ite {c:Prop} [Decidable c] {a b:Bool}:(if c then V3.bl a else V3.bl b)=V3.bl (if c then a else b):=by split<;>rfl
def oEq_int {s:S3} {h:H3} {i j:Int}:zD s h (.x (.int i)) (.x (.int j))=some (.v (.bl (decide (i=j)))):=by
 unfold zD qA;simp only[rdm,rdl,Hb,A5]
def oNe_int {s:S3} {h:H3} {i j:Int}:qf s h (.x (.int i)) (.x (.int j))=some (.v (.bl (!decide (i=j)))):=by
 unfold qf qA;simp only[rdm,rdl,Hb,A5]
def oAdd_int {s:S3} {h:H3} {i j:Int}:zf s h (.x (.int i)) (.x (.int j))=some (.v (.int (i+j))):=rfl
def oAddI_int {s:S3} {h:H3} {i j:Int}:DX s h (.x (.int i)) (.x (.int j))=some (.v (.int (i+j))):=rfl
def oSub_int {s:S3} {h:H3} {i j:Int}:oSub s h (.x (.int i)) (.x (.int j))=some (.v (.int (i-j))):=rfl
def oMul_int {s:S3} {h:H3} {i j:Int} (c:CMul i j):yt s h (.x (.int i)) (.x (.int j))=some (.v (.int (i*j))):=by
 unfold yt qs GS oI;simp only[Aa c,A5]
def oDiv_int {s:S3} {h:H3} {i j:Int} (a:0<j) (b:j<1073741824):zB s h (.x (.int i)) (.x (.int j))=some (.v (.int (i / j))):=by
 unfold zB oI;simp only[Aa (show CDiv i j from ⟨a,b⟩),A5]
def oMod_int {s:S3} {h:H3} {i j:Int} (c:0<j):zj s h (.x (.int i)) (.x (.int j))=some (.v (.int (i%j))):=by
 unfold zj oI;simp only[Aa c,A5]
def oShr_int {s:S3} {h:H3} {i j:Int} (c:0<=j):oShr s h (.x (.int i)) (.x (.int j))=some (.v (.int (i / 2 ^ j.toNat))):=by
 unfold oShr oI;simp only[Aa c,A5]
def oPow_int {s:S3} {h:H3} {i j:Int} (c:CPow i j):yH s h (.x (.int i)) (.x (.int j))=some (.v (.int (i ^ j.toNat))):=by
 unfold yH oI;simp only[Aa c,A5]
def oAndI_int {s:S3} {h:H3} {i j:Int}:NG s h (.x (.int i)) (.x (.int j))=some (.v (.int (Builtin.bitAnd i j))):=rfl
def oLt_int {s:S3} {h:H3} {i j:Int}:oLt s h (.x (.int i)) (.x (.int j))=some (.v (.bl (decide (i<j)))):=rfl
def oLe_int {s:S3} {h:H3} {i j:Int}:oLe s h (.x (.int i)) (.x (.int j))=some (.v (.bl (decide (i<=j)))):=rfl
def oGt_int {s:S3} {h:H3} {i j:Int}:jr s h (.x (.int i)) (.x (.int j))=some (.v (.bl (decide (j<i)))):=rfl
def oGe_int {s:S3} {h:H3} {i j:Int}:oGe s h (.x (.int i)) (.x (.int j))=some (.v (.bl (decide (j<=i)))):=rfl
def oIx_tup {s:S3} {h:H3} {xs:List V3} {i:Int}:zJ s h (.x (.tup xs)) (.x (.int i))=(atI xs i).map .v:=by
 unfold zJ qs oIxT oIxL oIxS;simp only[rdl];cases atI xs i<;>rfl
def oIx_lst {s:S3} {h:H3} {xs:List V3} {i:Int}:zJ s h (.x (.lst xs)) (.x (.int i))=(atI xs i).map .v:=by
 unfold zJ qs oIxT oIxL oIxS;simp only[rdl];cases atI xs i<;>rfl
def oIx_scr {s:S3} {h:H3} {ns:List Int} {i:Int}:zJ s h (.x (.scr ns)) (.x (.int i))=(atI (ns.map .int) i).map .v:=by
 unfold zJ qs oIxT oIxL oIxS;simp only[rdl];cases atI (ns.map V3.int) i<;>rfl
def sMt_ap {op:FM} {p:P3} {a:A3} {s:S3} {h:H3}:qI op p a s h=mtO op p a (fun s h _=>.nx s h) s h:=rfl
def mAppend_ok {xs:List V3} {y:V3} (h:xs.length<sizeLine):qk xs [y]=some (xs++[y],.non):=by unfold qk;simp only[Aa h]
def zW:1000000<=sizeLine:=by decide
def sz0:(0<=sizeLine)=True:=by simp
def sz1:(1<=sizeLine)=True:=eq_true (by have:=zW;lia)
def sz2:(2<=sizeLine)=True:=eq_true (by have:=zW;lia)
def sz3:(3<=sizeLine)=True:=eq_true (by have:=zW;lia)
def sz4:(4<=sizeLine)=True:=eq_true (by have:=zW;lia)
def sz5:(5<=sizeLine)=True:=eq_true (by have:=zW;lia)
def gb (g:G3) (b:D3) (x:V3) (s:S3) (h:H3):O3:=match g x s with
 |some s1=>b s1 h
 |none=>.no
def BO {Q:Res Vl->Prop} {k n:Nat} {b:D3} {vs:List V3} {h:H3} (hl:vs.length=k) (q:Q ((b (start3 n vs) h).res)):Q (fun3 k n b vs h):=by
 unfold fun3;rw[Aa hl];exact q
def Oe {a:A3} {g:G3} {b:D3} {s:S3} {h:H3} {j:Int} (ea:a s h=.ok [.x (.int j)] h) (hj: -(2 ^ 62)<=j/\j<2 ^ 62)
  (I:Nat->S3->Prop) (h0:I 0 s) (step:∀(i:Nat) s,i<j.toNat->I i s->∃s2,gb g b (.int (i:Int)) s h=.nx s2 h/\I (i+1) s2):∃s',zw (qC a) g b s h=.nx s' h/\I j.toNat s':=by
 have hf:zw (qC a) g b s h=zA (fun _=>True) g b ((List.range j.toNat).map fun k=>.int (0+((k:Nat):Int))) s h:=by
  unfold zw qC;simp only[ea,Res.bind,Res.bindS,Aa hj]
 rw[hf];have:=Ob (ok:=fun _=>True) (g:=g) (b:=b) (h:=h) I (xs:=(List.range j.toNat).map fun k=>.int (0+((k:Nat):Int))) (s:=s) trivial h0 fun i x s hx hI=>by
  have hi:i<j.toNat:=by
   have:=As.1 hx;simpa using this.1
  rw[A2,Cu hi]at hx;cases hx;obtain⟨s2,e,hI2⟩:=step i s hi hI;simp only[Int.zero_add];unfold gb at e;cases q:g (.int i) s with
  |none=>rw[q]at e;cases e
  |some s1=>rw[q]at e;exact⟨s1,s2,rfl,e,hI2⟩
 rwa [Ah,Dq]at this
def Of {Q:O3->Prop} {a:A3} {g:G3} {b r:D3} {s:S3} {h:H3} {j:Int} (ea:a s h=.ok [.x (.int j)] h) (hj: -(2 ^ 62)<=j/\j<2 ^ 62)
  (I:Nat->S3->Prop) (h0:I 0 s) (step:∀(i:Nat) s,i<j.toNat->I i s->∃s2,gb g b (.int (i:Int)) s h=.nx s2 h/\I (i+1) s2) (k:∀s',I j.toNat s'->Q (r s' h)):Q (sSeq (zw (qC a) g b) r s h):=by
 obtain⟨s',e,hI⟩:=Oe ea hj I h0 step;rw[AS e];exact k s' hI
def zF {Q:Res Vl->Prop} {a b:D3} {s s1:S3} {h h1:H3} (e:a s h=.nx s1 h1) (q:Q ((b s1 h1).res)):Q ((sSeq a b s h).res):=by rw[AS e];exact q
def Og {Q:Res Vl->Prop} {a:A3} {g:G3} {b r:D3} {s:S3} {h:H3} {j:Int} (ea:a s h=.ok [.x (.int j)] h) (hj: -(2 ^ 62)<=j/\j<2 ^ 62)
  (I:Nat->S3->Prop) (h0:I 0 s) (step:∀(i:Nat) s,i<j.toNat->I i s->∃s2,gb g b (.int (i:Int)) s h=.nx s2 h/\I (i+1) s2) (k:∀s',I j.toNat s'->Q ((r s' h).res)):Q ((sSeq (zw (qC a) g b) r s h).res):=
 Of (Q:=fun o=>Q o.res) ea hj I h0 step k
end L3
namespace L2
open PySem PySem.Spec PyProof.Rows
open PySem.Builtin.Str (occurrences)
section
variable {X:Cx} {e a b c o:Expr} {ta tb tc:TE} {pos:Pos}
theorem J6:∀(l:List Str) (t:Nat),Vals (l.map V.str) (strsFrom t l)
 | [],_=>.nil
 |x::r,t=>.cons ⟨t,rfl⟩ (J6 r (t+1))
def Oh (x y:Str):(Txt.split x y).length<=x.length+2:=PyProof.Rows.split_le x y
def Oj:V->List V->Hp->VK->Prop:=fun x xs H Q=> ∃z y,x=.str z/\xs=[.str y]/\z.length<=100000/\(y.length==0)=false/\∀l,H l=none->Q (.ref l) (zl H l (.lst ((PySem.Txt.split z y).map V.str)))
def Ol:MtR X "str.split" Oj:=by
 intro pins s σ H x xs v us Q I rx rs h;obtain⟨z,y,rfl,rfl,hz,hy,q⟩:=h;obtain⟨t,rfl⟩:=rx;obtain⟨u,rfl,ru⟩:=qP rs;obtain⟨t2,rfl⟩:=ru;have hl:=Oh z y;have sz:100000+2<=sizeLine:=by decide
 have fin:∀(its:List Value) (t':Nat),Vals ((PySem.Txt.split z y).map V.str) its->EP X pins σ Q (.ref s.heap.objs.size) {s with heap:=s.heap.push {cls:= .type "list",data:= .seq its.toArray},toks:=t'}:=fun its t' r=>
  ⟨.ref s.heap.objs.size,_,I.lnew r (by rw[Ah];lia),rfl,q _ I.fresh⟩
 unfold PySem.Txt.split at fin hl;cases h1:(decide (z.length<y.length) || decide (Builtin.Str.strKind z<Builtin.Str.strKind y)) with
 |true=>
  rw[Aa h1]at fin;exact Ci F.slot_str_split rfl F.entry_str_split (F.args_str_split_2 _ _) (meets_str_split_cannot_occur z y t t2 h1) (fin [.str z t] s.toks (.cons ⟨t,rfl⟩ .nil))
 |false=>
  rw[Ab (by rw[h1];decide)]at fin hl
  cases hf:(occurrences z y 0 z.length (z.length+1)).isEmpty with
  |true=>
   rw[Aa hf]at fin;exact Ci F.slot_str_split rfl F.entry_str_split (F.args_str_split_2 _ _) (meets_str_split_not_found z y t t2 h1 hy hf) (fin [.str z t] s.toks (.cons ⟨t,rfl⟩ .nil))
  |false=>
   rw[Ab (by rw[hf];decide)]at fin hl
   exact Ci F.slot_str_split rfl F.entry_str_split (F.args_str_split_2 _ _) (meets_str_split_sep z y t t2 h1 hy hf (by lia) (by lia)) (fin _ _ (J6 _ _))
def Om:V->List V->Hp->VK->Prop:=fun x xs H Q=> ∃z y,x=.str z/\xs=[.str y]/\z.length<=100000/\(y.length==0)=false/\∀l,H l=none->Q (.ref l) (zl H l (.tup [.str (PySem.Txt.partition z y).1,.str (PySem.Txt.partition z y).2.1,.str (PySem.Txt.partition z y).2.2]))
def On:MtR X "str.partition" Om:=by
 intro pins s σ H x xs v us Q I rx rs h;obtain⟨z,y,rfl,rfl,hz,hy,q⟩:=h;obtain⟨t,rfl⟩:=rx;obtain⟨u,rfl,ru⟩:=qP rs;obtain⟨t2,rfl⟩:=ru;have sz:100000+2<=sizeLine:=by decide
 have fin:∀(its:List Value) (t':Nat),Vals [.str (PySem.Txt.partition z y).1,.str (PySem.Txt.partition z y).2.1,.str (PySem.Txt.partition z y).2.2] its->EP X pins σ Q (.ref s.heap.objs.size) {s with heap:=s.heap.push {cls:= .type "tuple",data:= .seq its.toArray},toks:=t'}:=fun its t' r=>
  ⟨.ref s.heap.objs.size,_,I.laid (o:= .tup [.str (PySem.Txt.partition z y).1,.str (PySem.Txt.partition z y).2.1,.str (PySem.Txt.partition z y).2.2]) (t':=t') (fun b u e=>Aq _ e) (Af _) ⟨by show 3<=_;lia,its,r,⟨_,A1 _ rfl,rfl,_,rfl⟩⟩,rfl,q _ I.fresh⟩
 refine Ci F.slot_str_partition rfl F.entry_str_partition (F.args_str_partition_2 _ _) (meets_str_partition z y t t2 hy (by lia)) ?_
 unfold PySem.Txt.partition at fin;cases ho:occurrences z y 0 z.length 1 with
 |nil=>
  rw[ho]at fin;exact fin _ _ (.cons ⟨_,rfl⟩ (.cons ⟨_,rfl⟩ (.cons ⟨_,rfl⟩ .nil)))
 |cons i r=>
  rw[ho]at fin;exact fin _ _ (.cons ⟨_,rfl⟩ (.cons ⟨_,rfl⟩ (.cons ⟨_,rfl⟩ .nil)))
def Oo:∀{l:List Str} {us:List Value},Vals (l.map V.str) us->StrsAre us l:=fun r=>StrsAre.of_carried (L3.carried_strs r)
def Oq (K:FG):V->List V->Hp->VK->Prop:=fun x xs H Q=> ∃z p l,x=.str z/\xs=[.ref p]/\SqL K H p (l.map V.str)/\(l.map (·.length)).sum+l.length*z.length<=16777216/\Q (.str (PySem.Txt.join z l)) H
def Os:MtR X "str.join" (Oq X.K):=by
 intro pins s σ H x xs v us Q I rx rs h;obtain⟨z,p,l,rfl,rfl,hq,hl,q⟩:=h;obtain⟨t,rfl⟩:=rx;obtain⟨u,rfl,ru⟩:=qP rs;cases ru;obtain⟨its,rv,pl,_⟩:=I.list hq;exact join_list pl.isList (Oo rv) hl fun t' k=>⟨.str (PySem.Txt.join z l),H,I.tok k,⟨t',rfl⟩,q⟩
def BP:yM X (.type "int") (fun xs H Q=> ∃x n,xs=[.str x]/\x.length<=640/\PySem.intText? x=some n/\Q (.int n) H):=by
 intro pins s σ H xs us Q I r h;obtain⟨x,n,rfl,hl,hn,q⟩:=h;obtain⟨u,rfl,t,rfl⟩:=qP r;exact PySem.W.KIN.call_text hn hl ⟨.int n,H,I.tok _,⟨_,rfl⟩,q⟩
def Ot:yM X (.type "str") (fun xs H Q=> ∃x,xs=[.str x]/\Q (.str x) H):=by
 intro pins s σ H xs us Q I r h;obtain⟨x,rfl,q⟩:=h;obtain⟨u,rfl,t,rfl⟩:=qP r;exact PySem.P.str_of_str ⟨.str x,H,I,⟨_,rfl⟩,q⟩
end
end L2
namespace L3
open PySem PySem.Spec PyProof.Rows L2
section
variable {X:Cx} {κ:Kx} {E:XK} {F F':Fr} {σ σ':L2.St} {H H1 H':Hp} {Q:VK} {p:Addr} {e a b c o:Expr} {es:List Expr} {pos apos np cpos:Pos} {i:Nat} {D:Ends}
theorem J7 {β:AO} {O:Addr->Prop}:∀l:List Str,Reps κ β O H (l.map V3.str) (l.map V.str)
 | []=>.nil
 |x::r=>.cons (.str x) (J7 r)
def qU (p:P3) (a:A3):E3:=fun s h=>(p s h).bind fun f h1=>match f with
 |.x (.str z)=>(a s h1).bind fun fs h2=>match fs with
  | [.x (.str y)]=>if z.length<=100000/\(y.length==0)=false then .ok (.m (.lst ((PySem.Txt.split z y).map .str))) h2 else .no
  |_=>.no
 |_=>.no
def BQ {dp:P3} {t:A3} (ho:PE X o (zq κ E dp)) (ha:PA X [e] (zN κ E t)) (hbase:attributeBase o "split" X.env (eval o X.env)=eval o X.env:=by rfl)
  (hfew:((backTo cpos (starEach [e] X.env)).all (fun x=> !x.1) && (backToKw cpos (keywordEach [] X.env)).all (fun x=>x.1.isSome)
   && decide (([e]:List Expr).length+([]:List Keyword).length+(if ([]:List Keyword).isEmpty then 0 else 1)<30))=true:=by rfl)
  (hline:(apos.endLine==cpos.line)=true:=by rfl) (hs:starEach [e] X.env=(false,eval e X.env)::starEach [] X.env:=by rfl) (hplain:(backTo cpos (starEach [] X.env)).any (·.1)=false:=by rfl):
  PE X (.Call (.Attribute o "split" apos) [e] [] cpos) (zh κ E (qU dp t)):=yL (FE D6 PySem.F.slot_str_split PySem.F.type_str_split Ol ho ha hbase hfew hline hs hplain) fun σ H Q ⟨F,rel,o⟩=>
 (yh (K:=kP κ) zH rel o).mono fun v H1 ⟨β1,h1,f,e1,⟨r1,rf⟩,o1⟩=>by
  match f,rf,o1 with
  |.x (.str z),rf,o1=>
   cases (show Rep κ β1 F.O H1 (.str z) v from rf)
   refine⟨rfl,(yh (F:=F.to β1 h1) (K:=kA κ) zH r1 o1).mono fun vs H2 ⟨β2,h2,fs,e2,⟨r2,rfs⟩,o2⟩=>?_⟩
   match fs,rfs,o2 with
   | [.x (.str y)],rfs,o2=>
    obtain⟨w,rfl,rg⟩:=p1 rfs;cases (show Rep κ β2 F.O H2 (.str y) w from rg)
    by_cases hc:z.length<=100000/\(y.length==0)=false
    .simp only[Aa hc]at o2
     exact⟨z,y,rfl,rfl,hc.1,hc.2,fun l hl=>o2 β2 _ _ (yN hl) (Post.lst r2 hl (J7 _))⟩
    .simp only[Ab hc]at o2;exact o2.elim
def EY (p:P3) (a:A3):E3:=fun s h=>(p s h).bind fun f h1=>match f with
 |.x (.str z)=>(a s h1).bind fun fs h2=>match fs with
  | [.x (.str y)]=>if z.length<=100000/\(y.length==0)=false then .ok (.v (.tup [.str (PySem.Txt.partition z y).1,.str (PySem.Txt.partition z y).2.1,.str (PySem.Txt.partition z y).2.2])) h2 else .no
  |_=>.no
 |_=>.no
def J8 {dp:P3} {t:A3} (ho:PE X o (zq κ E dp)) (ha:PA X [e] (zN κ E t)) (hbase:attributeBase o "partition" X.env (eval o X.env)=eval o X.env:=by rfl)
  (hfew:((backTo cpos (starEach [e] X.env)).all (fun x=> !x.1) && (backToKw cpos (keywordEach [] X.env)).all (fun x=>x.1.isSome)
   && decide (([e]:List Expr).length+([]:List Keyword).length+(if ([]:List Keyword).isEmpty then 0 else 1)<30))=true:=by rfl)
  (hline:(apos.endLine==cpos.line)=true:=by rfl) (hs:starEach [e] X.env=(false,eval e X.env)::starEach [] X.env:=by rfl) (hplain:(backTo cpos (starEach [] X.env)).any (·.1)=false:=by rfl):
  PE X (.Call (.Attribute o "partition" apos) [e] [] cpos) (zh κ E (EY dp t)):=yL (FE D6 PySem.F.slot_str_partition PySem.F.type_str_partition On ho ha hbase hfew hline hs hplain) fun σ H Q ⟨F,rel,o⟩=>
 (yh (K:=kP κ) zH rel o).mono fun v H1 ⟨β1,h1,f,e1,⟨r1,rf⟩,o1⟩=>by
  match f,rf,o1 with
  |.x (.str z),rf,o1=>
   cases (show Rep κ β1 F.O H1 (.str z) v from rf)
   refine⟨rfl,(yh (F:=F.to β1 h1) (K:=kA κ) zH r1 o1).mono fun vs H2 ⟨β2,h2,fs,e2,⟨r2,rfs⟩,o2⟩=>?_⟩
   match fs,rfs,o2 with
   | [.x (.str y)],rfs,o2=>
    obtain⟨w,rfl,rg⟩:=p1 rfs;cases (show Rep κ β2 F.O H2 (.str y) w from rg)
    by_cases hc:z.length<=100000/\(y.length==0)=false
    .simp only[Aa hc]at o2
     exact⟨z,y,rfl,rfl,hc.1,hc.2,fun l hl=>o2 β2 _ _ (yN hl) (Post.tup r2 hl (.cons (.str _) (.cons (.str _) (.cons (.str _) .nil))))⟩
    .simp only[Ab hc]at o2;exact o2.elim
def AD (p:P3) (a:A3):E3:=fun s h=>(p s h).bind fun f h1=>match f with
 |.x (.str z)=>(a s h1).bind fun fs h2=>match fs with
  | [g]=>match rdl s h2 g with
   |some xs=>match mapO str3 xs with
    |some l=>if (l.map (·.length)).sum+l.length*z.length<=16777216 then .ok (.v (.str (PySem.Txt.join z l))) h2 else .no
    |none=>.no
   |none=>.no
  |_=>.no
 |_=>.no
def He {dp:P3} {t:A3} (hK:X.K=κ.K) (ho:PE X o (zq κ E dp)) (ha:PA X [e] (zN κ E t)) (hbase:attributeBase o "join" X.env (eval o X.env)=eval o X.env:=by rfl)
  (hfew:((backTo cpos (starEach [e] X.env)).all (fun x=> !x.1) && (backToKw cpos (keywordEach [] X.env)).all (fun x=>x.1.isSome)
   && decide (([e]:List Expr).length+([]:List Keyword).length+(if ([]:List Keyword).isEmpty then 0 else 1)<30))=true:=by rfl)
  (hline:(apos.endLine==cpos.line)=true:=by rfl) (hs:starEach [e] X.env=(false,eval e X.env)::starEach [] X.env:=by rfl) (hplain:(backTo cpos (starEach [] X.env)).any (·.1)=false:=by rfl):
  PE X (.Call (.Attribute o "join" apos) [e] [] cpos) (zh κ E (AD dp t)):=yL (FE D6 PySem.F.slot_str_join PySem.F.type_str_join Os ho ha hbase hfew hline hs hplain) fun σ H Q ⟨F,rel,o⟩=>
 (yh (K:=kP κ) zH rel o).mono fun v H1 ⟨β1,h1,f,e1,⟨r1,rf⟩,o1⟩=>by
  match f,rf,o1 with
  |.x (.str z),rf,o1=>
   cases (show Rep κ β1 F.O H1 (.str z) v from rf)
   refine⟨rfl,(yh (F:=F.to β1 h1) (K:=kA κ) zH r1 o1).mono fun vs H2 ⟨β2,h2,fs,e2,⟨r2,rfs⟩,o2⟩=>?_⟩
   match fs,rfs,o2 with
   | [g],rfs,o2=>
    obtain⟨w,rfl,rg⟩:=p1 rfs;cases q1:rdl F.s h2 g with
    |none=>simp only[q1]at o2;exact o2.elim
    |some xs=>
     simp only[q1]at o2;cases q2:mapO str3 xs with
     |none=>simp only[q2]at o2;exact o2.elim
     |some l=>
      simp only[q2]at o2
      by_cases hc:(l.map (·.length)).sum+l.length*z.length<=16777216
      .rw[Aa hc]at o2
       obtain⟨a,ys,rfl,sq,rs⟩:=CK (F:=F.to β2 h2) r2 rg q1;exact⟨z,a,l,rfl,rfl,by rw[hK,<-J4 rs q2];exact sq,hc,o2 β2 _ H2 Ext.refl ⟨r2,.str _⟩⟩
      .rw[Ab hc]at o2;exact o2.elim
def qF:FB:=fun _ _ fs=>match fs with
 | [.x (.str x)]=>match PySem.intText? x with
  |some n=>if x.length<=640 then some (.v (.int n)) else none
  |none=>none
 |_=>none
def BR:qD κ (fun xs H Q=> ∃x n,xs=[.str x]/\x.length<=640/\PySem.intText? x=some n/\Q (.int n) H) qF:=fun F σ H fs z vs Q rel r e k=>by
 unfold qF at e
 split at e
 .rename_i x
  cases q:PySem.intText? x with
  |none=>rw[q]at e;cases e
  |some n=>
   rw[q]at e;obtain⟨hl,rfl⟩:=qK e;obtain⟨v,rfl,rv⟩:=p1 r;cases (show Rep κ F.β F.O H (.str x) v from rv)
   exact⟨x,n,rfl,hl,q,k _ _ Ext.refl ⟨rel,.int _⟩⟩
 .cases e
def yP:FB:=fun _ _ fs=>match fs with
 | [.x (.int i)]=>if i.natAbs.log2<1920 then some (.v (.str (Str.ofString (toString i)))) else none
 | [.x (.str x)]=>some (.v (.str x))
 |_=>none
def AU:yM X (.type "str") (fun xs H Q=>(∃i:Int,xs=[.int i]/\i.natAbs.log2<1920/\Q (.str (toString i)) H)\/∃x,xs=[.str x]/\Q (.str x) H):=fun pins s σ H xs us Q I r h=>by
 rcases h with h|h
 .exact LS pins s σ H xs us Q I r h
 .exact Ot pins s σ H xs us Q I r h
def AV:qD κ (fun xs H Q=>(∃i:Int,xs=[.int i]/\i.natAbs.log2<1920/\Q (.str (toString i)) H)\/∃x,xs=[.str x]/\Q (.str x) H) yP:=fun F σ H fs z vs Q rel r e k=>by
 unfold yP at e
 split at e
 .rename_i i
  obtain⟨hl,rfl⟩:=qK e;obtain⟨v,rfl,rv⟩:=p1 r;cases (show Rep κ F.β F.O H (.int i) v from rv)
  exact .inl ⟨i,rfl,hl,k _ _ Ext.refl ⟨rel,.str _⟩⟩
 .rename_i x
  cases e;obtain⟨v,rfl,rv⟩:=p1 r;cases (show Rep κ F.β F.O H (.str x) v from rv)
  exact .inr ⟨x,rfl,k _ _ Ext.refl ⟨rel,.str _⟩⟩
 .cases e
end
section
variable {X:Cx} {κ:Kx} {E:XK} {F F1 F2 F':Fr} {σ σ':L2.St} {H H1 H2 H':Hp} {Q:VK} {p:Addr} {e a b o:Expr} {es:List Expr} {pos apos np cpos hp:Pos} {i:Nat} {D:Ends}
def jj (c:Str) (t:A3):D3:=fun s h=>(t s h).bindS fun fs h1=>if fs.length<=1000 then .ex ⟨c,none⟩ h1 else .no
def FW {c x:Str} {C:Addr} {t:A3} (hk:κ.cl c=some C) (xc:XCl X.K X.mg x C) (hc:X.calm=true) (hg:Gl X x) (hr:GM X E) (ha:PA X (e::es) (zN κ E t)) (hs:SE X e es:=by rfl) (hpl:(backTo cpos (starEach es X.env)).any (·.1)=false:=by rfl)
  (hd:(x==("__debug__" :Str))=false:=by decide):PS X (.Raise (some (.Call (.Name x np) (e::es) [] cpos)) none pos) (zr κ E (jj c t)):=
 je (MP xc hc hg hr ha hs hpl hd) fun D σ H ⟨F,rel,ht,o⟩=>(bindS (K:=kA κ) rel ht o).mono fun vs H1 ⟨β1,h1,fs,e1,⟨r1,rf⟩,o1⟩=>by
  by_cases hl:fs.length<=1000
  .rw[Aa hl]at o1
   exact⟨by rw[<-rf.length];exact hl,o1 (F.to β1 h1) H1 (SExt.of0 ht e1) (r1.heap.sub fun a ha=>.inr (.inr ha)) C hk⟩
  .rw[Ab hl]at o1;exact o1.elim
abbrev Hd:=Str×Option Nat×D3
def noEx:O3->O3
 |.ex _ _=>.no
 |o=>o
def asN (i:Nat):O3->O3
 |.nx s h=>.nx (s.set i none) h
 |.bk s h=>.bk (s.set i none) h
 |.ct s h=>.ct (s.set i none) h
 |.rt r h=>.rt r h
 |_=>.no
def pick (mt:Str->Str->Option Bool) (x:X3) (s:S3) (h:H3):List Hd->O3
 | []=>.no
 | (B,n,k)::r=>match mt x.c B with
  |some true=>match n with
   |none=>noEx (k s h)
   |some i=>if i<s.length then asN i (k (s.set i (some (.v (.fn x.c [])))) h) else .no
  |some false=>pick mt x s h r
  |none=>.no
def AW (mt:Str->Str->Option Bool) (j:Option Nat) (f:F3) (t:A3) (hs:List Hd):D3:=fun s h=>match t s h with
 |.ok fs h1=>match vals3 fs with
  |some vs=>match f vs h1 with
   |.ok r h2=>match j with
    |some i=>if i<s.length then .nx (s.set i (some r)) h2 else .no
    |none=>.nx s h2
   |.ex x h2=>pick mt x s h2 hs
   |.no=>.no
  |none=>.no
 |_=>.no
def trOf (κ:Kx) (E:XK) (mt:Str->Str->Option Bool) (hs:List Hd):Value->TS:=fun cls D σ H=> ∃F x C,Rel κ F σ H/\F.T=[]/\κ.cl x.c=some C/\cls=.ref C/\SOut κ E F H D (pick mt x F.s F.h hs)
def phw {hs:List ExceptHandler} {t t':Value->TS} (h:qR X hs t) (w:∀cls D σ H,t' cls D σ H->t cls D σ H):qR X hs t':=fun pins σ H s D a cls c q=>h pins σ H s D a cls c (w cls D σ H q)
def J9 {mt:Str->Str->Option Bool}:qR X [] (trOf κ E mt []):=phw MX fun cls D σ H ⟨F,x,C,_,_,_,_,o⟩=>o
def MtOk (κ:Kx) (mt:Str->Str->Option Bool) (B:Str) (Ba:Addr):Prop:=∀c C v,κ.cl c=some C->mt c B=some v->PySem.W.exmOne κ.K (.ref C) (.ref Ba)=some v
theorem SOut.noEx {o:O3} (h:SOut κ E F H D (noEx o)):SOut κ E0 F H D o:=by
 cases o with
 |ex x h'=>exact h.elim
 |nx s h'=>exact h
 |bk s h'=>exact h
 |ct s h'=>exact h
 |rt r h'=>exact h
 |no=>exact h
def Ou {x:Str} {B:Str} {Ba:Addr} {mt:Str->Str->Option Bool} {hs:List ExceptHandler} {b₀:Stmt} {suite:List Stmt} {k:D3} {r:List Hd} (hK:X.K=κ.K) (hM:MtOk κ mt B Ba) (hg:Gl X x) (hm:X.mg x=some (.ref Ba))
  (hs0:∀e,yB ((X.suite e).wish xNil) (b₀::suite) (zr κ E0 k)) (hr:qR X hs (trOf κ E mt r)) (hd:(x==("__debug__" :Str))=false:=by decide):
  qR X (.ExceptHandler (some (.Name x np)) none (b₀::suite) hp::hs) (trOf κ E mt ((B,none,k)::r)):=phw (MV hg hm hs0 hr hd) fun cls D σ H ⟨F,y,C,rel,ht,hC,hcl,o⟩=>by
 subst hcl;unfold pick at o;cases q:mt y.c B with
 |none=>rw[q]at o;exact o.elim
 |some v=>
  rw[q]at o;have ex:=hM y.c C v hC q;rw[<-hK]at ex;cases v with
  |true=>exact .inl ⟨ex,F,rel,ht,SOut.noEx o⟩
  |false=>exact .inr ⟨ex,F,y,C,rel,ht,hC,rfl,o⟩
def Ov {f:F3} {t:A3} {n:Nat} {mt:Str->Str->Option Bool} {hs:List Hd} {j:Nat} (hf:zC f n) (h:zr κ E (AW mt (some j) f t hs) D σ H):
  EF (zx κ n f) [] (fun cls _ H'=>trOf κ E mt hs cls D σ H') (zN κ E0 t) σ H (fun v H1=>D.nx (σ.set j (some v)) H1):=by
 obtain⟨F,rel,ht,o⟩:=h;unfold AW at o
 refine⟨F,rel,?_⟩
 cases q:t F.s F.h with
 |no=>rw[q]at o;exact o.elim
 |ex x h1=>rw[q]at o;exact o.elim
 |ok fs h1=>
  rw[q]at o;intro β1 vs H1 e1 ⟨r1,rf⟩;cases q2:vals3 fs with
  |none=>simp only[q2]at o;exact o.elim
  |some xs=>
   simp only[q2]at o;have hr:=DT rf q2;rw[B1]
   refine⟨F.O,β1,xs,h1,?_,r1.heap,hr,?_⟩
   .refine Classical.byContradiction fun n=>?_
    rw[hf xs h1 (by rw[hr.length];exact n)]at o
    exact o
   .have e0:SExt F H (F.to β1 h1) H1:=SExt.of0 ht e1
    cases q3:f xs h1 with
    |no=>rw[q3]at o;exact o.elim
    |ex x h2=>
     rw[q3]at o;intro β' H' e' rh C hC;have r2:Rel κ ((F.to β1 h1).to β' h2) σ H':=r1.next e' rh;exact⟨_,x,C,r2,ht,hC,rfl,SOut.move (e0.trans (SExt.of0 (h':=h2) ht e')) o⟩
    |ok r h2=>
     rw[q3]at o
     by_cases hj:j<F.s.length
     .simp only[Aa hj]at o
      refine FOut.of (E:=fun cls _ H'=>trOf κ E mt hs cls D σ H') r1 ?_
      intro β' v H' e' p1;have e2:SExt F H ((F.to β1 h1).to β' h2) H':=e0.trans (SExt.of0 (h':=h2) ht e');cases r with
      |v x=>
       obtain⟨r1,r2⟩:=p1;exact o (((F.to β1 h1).to β' h2).setV j x) _ H' (e2.trans (SExt.setN ht)) rfl rfl (r1.setV r2 hj)
      |m c=>
       obtain⟨p,rfl,r1,r2,hp⟩:=p1
       refine o (((F.to β1 h1).to β' h2).setM j c p) _ H' ?_ rfl rfl (r1.setM r2 hj)
       refine⟨e2.ext,fun a ha=>?_,rfl,ht⟩
       rcases jd ha with z|z
       .cases z;exact .inr (e1.nw p hp)
       .exact .inl z.1
     .simp only[Ab hj]at o;exact o.elim
def JA {x y:Str} {py:Pos} {f:F3} {t:A3} {k n j:Nat} {fa:Addr} {fd:FuncData} {ps:List Str} {mt:Str->Str->Option Bool} {hs:List Hd} {h₀:ExceptHandler} {hh:List ExceptHandler} (hf:zC f n) (Fk:FnOk X.prog X.w X.K X.mg X.base (XT X.prog X.w) k fa fd ps (zx κ n f)) (hr:Room k X.A) (hg:Gl X x) (hm:X.mg x=some (.ref fa)) (hk:PySem.W.keepIn X.K (.ref fa)=true) (hb:Binds X.K fd ps [])
  (ha:∀pn W,PA ((X.pinned pn).wish W) (e::es) (zN κ E0 t)) (hst:X.stack=X.env::X.outer) (hfm:X.env.frame=some X.env.locals) (hex:X.ex=[]) (hN:X.N.Nodup) (hi:X.N[j]? =some y) (hx:jq X.env.scope y) (hp:qR X (h₀::hh) (trOf κ E mt hs))
  (hdb:(x==("__debug__" :Str))=false:=by decide) (he:SE X e es:=by rfl) (hpl:(backTo cpos (starEach es X.env)).any (·.1)=false:=by rfl)
  (hs0:swapsWith (.Call (.Name x np) (e::es) [] cpos) (some (.Name y py)) apos.line X.env=pure false:=by rfl) (hfn:X.fn y=true\/X.env.scope.names.lookup y=some .local:=by first|exact .inl rfl|exact .inr rfl|assumption):
  PS X (.Try [.Assign [.Name y py] (.Call (.Name x np) (e::es) [] cpos) apos] (h₀::hh) [] [] pos) (zr κ E (AW mt (some j) f t hs)):=
 je (MY (tb:=fun E' D σ H=>EF (zx κ n f) [] E' (zN κ E0 t) σ H (fun v H1=>D.nx (σ.set j (some v)) H1)) hst hfm hex (fun pn σ₀ E'=>Ik (Ip (X:=(X.pinned pn).wish (EJ X pn σ₀ E')) hN hi hx (MT (X:=(X.pinned pn).wish (EJ X pn σ₀ E')) Fk hr hg hm hk hb .nil MU (ha pn _) hdb he hpl) hs0 hfn)) hp) fun D σ H h=>Ov hf h
def Rel.unset (rel:Rel κ F σ H):Rel κ {F with s:=F.s.set i none} (σ.set i none) H where
 heap:=rel.heap
 slen:=by show (F.s.set i none).length=_;rw[A4,A4];exact rel.slen
 llen:=by show F.l.length=(F.s.set i none).length;rw[A4];exact rel.llen
 linj:=rel.linj
 lt:=rel.lt
 lo:=rel.lo
 to:=rel.to
 tn:=rel.tn
 slot:=fun j x hj=>by
  have hj:(F.s.set i none)[j]? =some (some x):=hj
  by_cases e:j=i
  .subst e
   by_cases hl:j<F.s.length
   .rw[Df hl]at hj;cases hj
   .rw[List.getElem?_eq_none (by rw[A4];lia)]at hj;cases hj
  .rw[Cz (Bl e)]at hj
   obtain⟨v,h1,h2⟩:=rel.slot j x hj;exact⟨v,by rw[Cz (Bl e)];exact h1,h2⟩
def SExt.unset (e:SExt F H F' H'):SExt F H {F' with s:=F'.s.set i none} H':=⟨e.ext,e.lam,e.oi,e.tt⟩
theorem SOut.asN {o:O3} (h:SOut κ E F H D (asN i o)):SOut κ E0 F H {nx:=fun σ' H'=>D.nx (σ'.set i none) H',rt:=D.rt,bk:=fun σ' H'=>D.bk (σ'.set i none) H',ct:=fun σ' H'=>D.ct (σ'.set i none) H'} o:=by
 cases o with
 |ex x h'=>exact h.elim
 |no=>exact h
 |nx s h'=>exact fun F' σ' H' e es eh r=>h _ _ H' e.unset (by show F'.s.set i none=_;rw[es]) eh r.unset
 |bk s h'=>exact fun F' σ' H' e es eh r=>h _ _ H' e.unset (by show F'.s.set i none=_;rw[es]) eh r.unset
 |ct s h'=>exact fun F' σ' H' e es eh r=>h _ _ H' e.unset (by show F'.s.set i none=_;rw[es]) eh r.unset
 |rt r h'=>exact h
def Ow {x m:Str} {B:Str} {Ba:Addr} {mt:Str->Str->Option Bool} {hs:List ExceptHandler} {b₀:Stmt} {suite:List Stmt} {k:D3} {r:List Hd} (hK:X.K=κ.K) (hM:MtOk κ mt B Ba) (hN:X.N.Nodup) (hi:X.N[i]? =some m) (hlo:jq X.env.scope m) (hkd:X.env.kindOf m=some .local) (hg:Gl X x) (hm:X.mg x=some (.ref Ba))
  (hs0:∀e,yB ((X.suite e).wish xNil) (b₀::suite) (zr κ E0 k)) (hr:qR X hs (trOf κ E mt r)) (hd:(x==("__debug__" :Str))=false:=by decide) (hf:X.fn m=true\/X.env.scope.names.lookup m=some .local:=by first|exact .inl rfl|exact .inr rfl|assumption):
  qR X (.ExceptHandler (some (.Name x np)) (some m) (b₀::suite) hp::hs) (trOf κ E mt ((B,some i,k)::r)):=phw (MW hN hi hlo hkd hg hm hs0 hr hd hf) fun cls D σ H ⟨F,y,C,rel,ht,hC,hcl,o⟩=>by
 subst hcl;unfold pick at o;cases q:mt y.c B with
 |none=>rw[q]at o;exact o.elim
 |some v=>
  rw[q]at o;have ex:=hM y.c C v hC q;rw[<-hK]at ex;cases v with
  |true=>
   refine .inl ⟨ex,fun a ha=>?_⟩
   by_cases hi':i<F.s.length
   .simp only[Aa hi']at o
    have e1:Ext No F.β H F.β (zl H a (excO a (.ref C))):=yN ha;have nb:some a∉F.β:=fun z=>by
     obtain⟨j,hj⟩:=C6 z;obtain⟨u,hu,_⟩:=rel.heap.btr j a hj;rw[ha]at hu;cases hu
    have no: ¬F.O a:=fun z=>by
     obtain⟨u,hu,_⟩:=rel.heap.trk a z;rw[ha]at hu;cases hu
    have r1:Rel κ F σ (zl H a (excO a (.ref C))):=rel.laid ha;exact⟨F.setV i (.fn y.c []),r1.setV (.exc hC yQ nb no) hi',ht,SOut.asN (SOut.move ((SExt.of0 (h':=F.h) ht e1).trans (SExt.setN ht)) o)⟩
   .simp only[Ab hi']at o;exact o.elim
  |false=>exact .inr ⟨ex,F,y,C,rel,ht,hC,rfl,o⟩
end
section
variable {X:Cx} {κ:Kx}
def bIsE (mt:Str->Str->Option Bool):FB:=fun s h fs=>match fs with
 | [.x (.fn c []),.x (.cls B)]=>(mt c B).map fun b=>.v (.bl b)
 |_=>none
def IsOk (κ:Kx) (mt:Str->Str->Option Bool):Prop:=∀c B C Ba v,κ.cl c=some C->κ.cl B=some Ba->mt c B=some v->ExK κ.K C/\PySem.W.kitOne κ.K (.ref C) (.ref Ba)=some v
abbrev rIsE (κ:Kx):List V->Hp->VK->Prop:=fun xs H Q=> ∃a C c b,xs=[.ref a,.ref c]/\H a=some (excO a (.ref C))/\ExK κ.K C/\PySem.W.kitOne κ.K (.ref C) (.ref c)=some b/\Q (.bl b) H
def FX {mt:Str->Str->Option Bool} (ok:IsOk κ mt):qD κ (rIsE κ) (bIsE mt):=fun F σ H fs z vs Q rel r e k=>by
 unfold bIsE at e
 split at e
 .rename_i c B
  obtain⟨v,w,rfl,rv,rw'⟩:=p2 r;cases q:mt c B with
  |none=>rw[q]at e;cases e
  |some b=>
   rw[q]at e;cases e;cases (show Rep κ F.β F.O H (.fn c []) v from rv) with
   | @exc _ C a hc ha _ _=>
    cases (show Rep κ F.β F.O H (.cls B) w from rw') with
    | @cls _ Ba hb=>
     obtain⟨h1,h2⟩:=ok c B C Ba b hc hb q;exact⟨a,C,Ba,b,rfl,ha,h1,h2,k _ H Ext.refl ⟨rel,.bl _⟩⟩
 .cases e
def FY (hK:X.K=κ.K):yM X (.builtin "isinstance") (rIsE κ):=by
 intro pins s σ H xs us Q I r h;obtain⟨a,C,c,b,rfl,ha,z,e,q⟩:=h;obtain⟨u,v,rfl,rx,ry⟩:=EE r;cases rx;cases ry;rw[<-hK]at z e;exact Ng z I ha e fun tk=>⟨.bl b,H,I.tok tk,rfl,q⟩
def Ox (hK:X.K=κ.K):yM X (.type "tuple") (fun xs H Q=> ∃p ys,xs=[.ref p]/\SqL κ.K H p ys/\∀l,H l=none->Q (.ref l) (zl H l (.tup ys))):=by
 intro pins s σ H xs us Q I r h;obtain⟨p,ys,rfl,hq,q⟩:=h;obtain⟨u,rfl,rx⟩:=qP r;cases rx;rw[<-hK]at hq;obtain⟨its,rv,pl,hz⟩:=I.list hq;have hlen:=rv.length
 refine call_tuple_list pl.isList (fun h' hk=>?_) (by simp only[Ak];lia)
 have I1:Inv X pins σ H {s with heap:=h'}:=I.kept (t':=s.toks) hk
 have hf:H h'.objs.size=none:=I1.hok.fresh (Af _);exact⟨.ref h'.objs.size,_,I1.laid (t':=s.toks) (fun b u e=>Aq _ e) (Af _) (show ObjOk X.prog X.w _ (h'.push _) _ (.tup ys) from ⟨hz,its,rv,⟨_,A1 _ rfl,rfl,_,rfl⟩⟩),rfl,q _ hf⟩
def EZ:FB:=fun s h fs=>match fs with
 | [f]=>(rdl s h f).map fun xs=>.v (.tup xs)
 |_=>none
def Oy:qD κ (fun xs H Q=> ∃p ys,xs=[.ref p]/\SqL κ.K H p ys/\∀l,H l=none->Q (.ref l) (zl H l (.tup ys))) EZ:=fun F σ H fs z vs Q rel r e k=>by
 unfold EZ at e
 split at e
 .rename_i f
  obtain⟨v,rfl,rv⟩:=p1 r;cases q1:rdl F.s F.h f with
  |none=>rw[q1]at e;cases e
  |some xs=>
   rw[q1]at e;cases e;obtain⟨a,ys,rfl,sq,rs⟩:=CK rel rv q1;exact⟨a,ys,rfl,sq,fun l hl=>k _ _ (yN hl) (Post.tup rel hl rs)⟩
 .cases e
def qv (l:List (Str×Str×Bool)) (c B:Str):Option Bool:=match l with
 | []=>none
 | (x,y,v)::r=>if x=c/\y=B then some v else qv r c B
def MtL (κ:Kx) (l:List (Str×Str×Bool)):Prop:=∀c B v,qv l c B=some v->∃C Ba,κ.cl c=some C/\κ.cl B=some Ba/\PySem.W.exmOne κ.K (.ref C) (.ref Ba)=some v/\PySem.W.kitOne κ.K (.ref C) (.ref Ba)=some v/\ExK κ.K C
def MtL.nil:MtL κ []:=fun c B v e=>by cases e
def MtL.cons {x y:Str} {v:Bool} {C Ba:Addr} {l:List (Str×Str×Bool)} (h1:κ.cl x=some C) (h2:κ.cl y=some Ba) (h3:PySem.W.exmOne κ.K (.ref C) (.ref Ba)=some v) (h4:PySem.W.kitOne κ.K (.ref C) (.ref Ba)=some v) (h5:ExK κ.K C) (r:MtL κ l):MtL κ ((x,y,v)::l):=fun c B u e=>by
 unfold qv at e
 by_cases q:x=c/\y=B
 .rw[Aa q]at e;obtain⟨rfl,rfl⟩:=q;cases e
  exact⟨C,Ba,h1,h2,h3,h4,h5⟩
 .rw[Ab q]at e;exact r c B u e
def MtL.ok {l:List (Str×Str×Bool)} {B:Str} {Ba:Addr} (h:MtL κ l) (hB:κ.cl B=some Ba):MtOk κ (qv l) B Ba:=fun c C v hc e=>by
 obtain⟨C',Ba',a,b,x,_⟩:=h c B v e;rw[hc]at a;rw[hB]at b;cases a;cases b;exact x
def MtL.is {l:List (Str×Str×Bool)} (h:MtL κ l):IsOk κ (qv l):=fun c B C Ba v hc hB e=>by
 obtain⟨C',Ba',a,b,_,x,z⟩:=h c B v e;rw[hc]at a;rw[hB]at b;cases a;cases b;exact⟨z,x⟩
def Hf:OpSim κ (fun x y H Q=> ∃i j,x=.str i/\y=.str j/\Q (.bl (!(!(Builtin.Str.occurrences j i 0 j.length 1).isEmpty))) H) (yy true):=fun F σ H x y z v w Q rel rx ry e k=>by
 unfold yy at e
 split at e
 .rename_i i j
  cases e;cases (show Rep κ F.β F.O H (.str i) v from rx)
  cases (show Rep κ F.β F.O H (.str j) w from ry)
  exact⟨i,j,rfl,rfl,k _ H Ext.refl ⟨rel,.bl _⟩⟩
 .cases e
end
end L3
namespace L2
open PySem PySem.Spec PyProof.Rows
abbrev qy (X:Cx) (N:List Str) (scope:Scope) (cl:List (Str×Addr)) (C:Addr) (s:Shared) (H:Hp) (ex:List Addr) (pn:AL) (E:XK):Cx:=((yA X N scope cl C s H ex).pinned pn).wish (AN (yA X N scope cl C s H ex) pn E)
section
variable {prog:Program} {w:World} {A:Around} {R:Result->Shared->Prop} {s:Shared}
def Oz {elt target iter:Expr} {ifs:List Expr} {scope:Scope} {pos:Pos} {it acc:Value} {env:Env} {NX:VP} (hNX:NX=notedBy (model prog w) A env fun e s'=>R (.error e) s') (I:Nat->Shared->Prop)
  (turn:∀n s,I n s->wpAny (model prog w) A (pyNext it) (fun r s₁=>match r with
   |none=>R (.ok .next) s₁
   |some v=>wpAny (model prog w) A (letOwnedTupleGo target it v) (fun _ s₁'=>wpAny (model prog w) A (assign target env v) (fun _ s₂=>
    wpAny (model prog w) A (forIn ifs true fun c r=>if r=true then do let ok <-isTrue c env (eval c env);pure (ForInStep.yield ok) else pure (ForInStep.yield r)) (fun ok s₃=>
     if ok=true then wpAny (model prog w) A (eval elt env) (fun x s₄=>
      wpAny (model prog w) A (call (.builtin "list.append") [acc,x]) (fun _ s₅=> ∃m,m<n/\I m s₅) NX s₄) NX s₃
     else ∃m,m<n/\I m s₃) NX s₂) NX s₁') NX s₁) NX s)
  (n:Nat) (h:I n s):codeAny (model prog w) A (.compLoop (.ListComp elt [⟨target,iter,ifs,0⟩] scope pos) 0 it acc env) R s:=by
 subst hNX
 refine codeAny_loop rfl I (fun n s hI=>?_) n h
 show wpAny _ A ((compTurn (.ListComp elt [⟨target,iter,ifs,0⟩] scope pos) 0 it acc env).onRaise (fun x=>do noteFrame x env;theTreesLotGoes x)) _ _ s
 refine wpAny_noted ?_
 rw[compTurn_list]
 refine Ac (Cd (Ac (zp (turn n s hI) (fun r s₁ h₁=>?_))))
 cases r with
 |none=>exact Ag h₁
 |some v=>
  refine Ac (zp h₁ (fun _ s₁' h₁'=>?_))
  refine Ac (zp h₁' (fun _ s₂ h₂=>Ac (zp h₂ (fun ok s₃ h₃=>?_))))
  cases ok with
  |false=>exact Ag ⟨rfl,h₃⟩
  |true=>exact Ac (Ac (zp h₃ (fun x s₄ h₄=>Ac (zp h₄ (fun _ s₅ h₅=>Ag (Ag ⟨rfl,h₅⟩))))))
end
structure CompExc (X:Cx) (pins:AL) (σ:St) (E:XK) (C:Addr) (e:Value) (s1:Shared):Prop where
 ex:∃a T cls a0 H',e=.ref a/\Inv X pins σ H' s1/\H' C=none/\H' a=none/\H' T=none/\X.s₀.heap.get? a=none/\X.s₀.heap.get? T=none/\Trc s1.heap a T cls a0/\E cls none H'
 ns:∃m,s1.heap.Ns C m
 neL:C≠X.env.locals
 nfs:C∉X.fs
 new:X.s₀.heap.get? C=none
section
variable {X:Cx} {pins:AL} {σ:St} {H:Hp} {s:Shared}
def JB {elt tg iter:Expr} {ifs:List Expr} {loc free:List Str} {fr:List Nat} {scope:Scope} {pos:Pos} {wi:TI} {g:TG} {tc:TT} {te:TE} {E:XK} (hex:X.ex=[]) (hc:X.calm=true) (S:CompScope X loc free fr scope) (hi:PI X tg iter wi)
  (hg:∀cl C s H ex pn,PG (qy X (loc++free) scope cl C s H ex pn E) tg g) (ht:∀cl C s H ex pn,jb (qy X (loc++free) scope cl C s H ex pn E) ifs tc) (he:∀cl C s H ex pn,PE (qy X (loc++free) scope cl C s H ex pn E) elt te)
  (I:Inv X pins σ H s) {Q:VK} (h:BG wi loc.length fr g tc te σ H Q) {cl:List (Str×Addr)} (hc1:∀x c,cl.lookup x=some c->X.env.cells.lookup x=some c) (hc2:∀y∈scope.names,y.2=.free->∃c,cl.lookup y.1=some c)
  {RR:Value->Env->Result->Shared->Prop} (hRR:∀D C s6,CompEnd X pins σ Q D C s6->RR (.ref D) (compEnvC scope cl C X.env) (.ok .next) s6)
  (hEx:∀D C s6 e,CompExc X pins σ E C e s6->notedBy (model X.prog X.w) X.A (compEnvC scope cl C X.env) (fun e s'=>RR (.ref D) (compEnvC scope cl C X.env) (.error e) s') e s6):
  wpAny (model X.prog X.w) X.A (eval iter X.env) (fun x s1=>wpAny (model X.prog X.w) X.A (pyIter x) (fun it s2=>wpAny (model X.prog X.w) X.A (newList []) (fun acc s3=>
   wpAny (model X.prog X.w) X.A (newFunctionEnv scope X.env.globals cl [] X.env.qual none .none (some X.env)) (fun cenv s4=>
    codeAny (model X.prog X.w) X.A (.compStart (.ListComp elt [⟨tg,iter,ifs,0⟩] scope pos) 0 it acc {cenv with scope:=relabel scope X.env}) (RR acc {cenv with scope:=relabel scope X.env}) s4) X.xe s3) X.xe s2) X.xe s1) X.xe s:=by
 refine zp (hi pins s σ H _ I h) fun v s1 h1=>zp h1 fun itv s2 h2=>?_
 obtain⟨it,fp,tn,J,H2,e,I2,T,st2,f2,q2⟩:=h2;subst e;have hD:H2 s2.heap.objs.size=none:=I2.hok.fresh (Af _);obtain⟨W,⟨m0,w0⟩,turn⟩:=q2 s2.heap.objs.size hD
 refine Co ?_
 generalize hs3:({s2 with heap:=s2.heap.push {cls:= .type "list",dict:=none,data:= .seq ([]:List Value).toArray}}:Shared)=s3
 have I3:Inv X pins σ (zl H2 s2.heap.objs.size (.lst [])) s3:=by
  rw[<-hs3];exact I2.lnew (its:=[]) (t':=s2.toks) .nil (Bk _)
 have k23:∀b o,s2.heap.get? b=some o->s3.heap.get? b=some o:=fun b o q=>by rw[<-hs3];exact Aq _ q
 have f3:∀b∈fp,yz X pins (zl H2 s2.heap.objs.size (.lst [])) b:=fun b hb=>by
  obtain⟨o,e,_⟩:=T.obj _ _ st2 b hb;exact⟨by rw[zI (Ap (Ad e))];exact (f2 b hb).1,(f2 b hb).2⟩
 have o3:∀b∈fp,∃o,s3.heap.get? b=some o:=fun b hb=>let ⟨o,e,_⟩:=T.obj _ _ st2 b hb;⟨o,k23 b o e⟩
 have st3:tn 0 s3.heap:=T.keep _ _ _ st2 fun b _ o e=>k23 b o e
 refine wpAny_newFunctionEnv S.cell (by intro y hy;simp at hy) (fun h4 hns hsb=>?_) S.kind
 try dsimp only at hns hsb ⊢
 have k34:∀b o,s3.heap.get? b=some o->h4.get? b=some o:=fun b o q=>hsb.extBut b o (Ap (Ad q)) (Aq _ q)
 have I4:=IM (t1:=s3.toks+([]:List (Str×Value)).length) S I3 hc1 hc2 hns k34 f3 o3;have hgC:∀pn,PG (((yA X (loc++free) scope cl s3.heap.objs.size s3 (zl H2 s2.heap.objs.size (.lst [])) fp).pinned pn).wish (AN (yA X (loc++free) scope cl s3.heap.objs.size s3 (zl H2 s2.heap.objs.size (.lst [])) fp) pn E)) tg g:=fun pn=>hg cl s3.heap.objs.size s3 (zl H2 s2.heap.objs.size (.lst [])) fp pn
 have htC:∀pn,jb (((yA X (loc++free) scope cl s3.heap.objs.size s3 (zl H2 s2.heap.objs.size (.lst [])) fp).pinned pn).wish (AN (yA X (loc++free) scope cl s3.heap.objs.size s3 (zl H2 s2.heap.objs.size (.lst [])) fp) pn E)) ifs tc:=fun pn=>ht cl s3.heap.objs.size s3 (zl H2 s2.heap.objs.size (.lst [])) fp pn
 have heC:∀pn,PE (((yA X (loc++free) scope cl s3.heap.objs.size s3 (zl H2 s2.heap.objs.size (.lst [])) fp).pinned pn).wish (AN (yA X (loc++free) scope cl s3.heap.objs.size s3 (zl H2 s2.heap.objs.size (.lst [])) fp) pn E)) elt te:=fun pn=>he cl s3.heap.objs.size s3 (zl H2 s2.heap.objs.size (.lst [])) fp pn
 have st4:tn 0 h4:=T.keep _ _ _ st3 fun b _ o e=>k34 b o e
 have hYo:(yA X (loc++free) scope cl s3.heap.objs.size s3 (zl H2 s2.heap.objs.size (.lst [])) fp).outer=X.stack:=rfl;generalize hY:yA X (loc++free) scope cl s3.heap.objs.size s3 (zl H2 s2.heap.objs.size (.lst [])) fp=Y at I4 hgC htC heC;have fY:∀{H':Hp},(∀b∈fp,H' b=none)->∀b∈fp,yz Y [] H' b:=fun hn b hb=>by
  subst hY
  refine⟨hn b hb,?_,fun z=>?_,.inl hb,fun x c e=>(f3 b hb).2.2.2.2.1 x c (hc1 x c e),fun p hp=>absurd (show p∈([]:AL) from hp) (by simp)⟩
  .obtain⟨o,e⟩:=o3 b hb
   exact Ap (Ad e)
  .rcases Ae.mp (I3.stkSub b z) with e|e
   .exact (f3 b hb).2.1 e
   .exact (f3 b hb).2.2.1 e
 have hYp:Y.prog=X.prog:=by rw[<-hY];rfl
 have hYw:Y.w=X.w:=by rw[<-hY];rfl
 have hYK:Y.K=X.K:=by rw[<-hY];rfl
 have hYA:Y.A=X.A:=by rw[<-hY];rfl
 have hYe:Y.env=compEnvC scope cl s3.heap.objs.size X.env:=by rw[<-hY];rfl
 have hYc:Y.calm=true:=by rw[<-hY];exact hc
 have hYn:Y.pn=[]:=by rw[<-hY];rfl
 have hYs:Y.stack=X.stack:=by rw[<-hY];rfl
 have toX:∀{pins6:AL} {σ6:St} {H6:Hp} {s6:Shared},Inv Y pins6 σ6 H6 s6->Inv X pins σ H6 s6/\H6 s3.heap.objs.size=none/\∃m,s6.heap.Ns s3.heap.objs.size m:=fun {pins6 σ6 H6 s6} I6=>by
  obtain⟨m,hn,_⟩:=id I6.loc;rw[hYe]at hn;have fC:H6 s3.heap.objs.size=none:=by
   have:=I6.free;rw[hYe]at this;exact this
  have hok6:HOk X.prog X.w H6 s6.heap:=by
   have:=I6.hok;rw[hYp,hYw]at this;exact this
  have un6:Un (zS X.stack) fp (zl H2 s2.heap.objs.size (.lst [])) H6 s3.heap s6.heap:=by
   have:=I6.base;subst hY;exact this
  have os6:s6.os=s3.os:=by
   have:=I6.os;subst hY;exact this
  exact⟨I3.call' (ch:=fp) os6 un6 hok6 I6.bare fun b hb=>⟨(f3 b hb).2.2.2.1,(f3 b hb).2.1,(f3 b hb).2.2.2.2.1,(f3 b hb).2.2.2.2.2⟩,fC,m,hn⟩
 have newC:X.s₀.heap.get? s3.heap.objs.size=none:=by
  cases z:X.s₀.heap.get? s3.heap.objs.size with
  |none=>rfl
  |some o=>exact absurd (Ar (Ad z) I3.sz) (Bi _)
 have exX:∀{pl:AL} (e:Value) (s6:Shared),(∀b∈fp,∃o,(b,o)∈Y.pn++pl)->AN Y (Y.pn++pl) E e s6->notedBy (model X.prog X.w) X.A (compEnvC scope cl s3.heap.objs.size X.env) (fun e s'=>RR (.ref s2.heap.objs.size) (compEnvC scope cl s3.heap.objs.size X.env) (.error e) s') e s6:=fun {pl} e s6 hpl ⟨pins5,σ5,H5,s5,I5,a,Tb,cls,a0,H6,e1,os,bare,un,hok,na,nT,ha,hT,tr,q⟩=>by
  subst e1;have I6:Inv (Y.pinned (Y.pn++pl)) pins5 σ5 H6 s6:=I5.call' os un hok bare fun b z=>nomatch z
  obtain⟨IX,fC,ns⟩:=toX I6.unpin;have old:∀b,s5.heap.get? b=none->X.s₀.heap.get? b=none:=fun b e=>by
   cases z:X.s₀.heap.get? b with
   |none=>rfl
   |some o=>
    exfalso
    obtain⟨o',q'⟩:=I3.base.there b o z fun y=>by rw[hex]at y;cases y
    by_cases hb:b∈fp
    .obtain⟨o2,hp⟩:=hpl b hb
     have:=(I5.pin (b,o2) (Cy _ hp)).1;rw[e]at this;cases this
    .have U:Un (zS X.stack) fp (zl H2 s2.heap.objs.size (.lst [])) H5 s3.heap s5.heap:=by
      have:=I5.base;subst hY;exact this
     obtain⟨o2,q2⟩:=U.there b o' q' hb;rw[e]at q2;cases q2
  exact hEx _ _ s6 _ ⟨⟨a,Tb,cls,a0,H6,rfl,IX,fC,ha,hT,old a na,old Tb nT,tr,q⟩,ns,B0 I3.lt,I3.nofs (Af _),newC⟩
 have loop:codeAny (model X.prog X.w) X.A (.compLoop (.ListComp elt [⟨tg,iter,ifs,0⟩] scope pos) 0 (.ref it) (.ref s2.heap.objs.size) (compEnvC scope cl s3.heap.objs.size X.env))
   (RR (.ref s2.heap.objs.size) (compEnvC scope cl s3.heap.objs.size X.env)) {s3 with heap:=h4,toks:=s3.toks+([]:List (Str×Value)).length}:=by
  refine Oz rfl (fun n s'=> ∃i acc σ' H',Inv Y [] σ' H' s'/\tn i s'.heap/\(∀b∈fp,H' b=none)/\W i n acc σ' H') ?_ m0 ⟨0,[],_,_,I4,st4,fun b hb=>(f3 b hb).1,w0⟩
  rintro n s5 ⟨i,acc,σ5,H5,I5,st5,fr5,w5⟩;obtain⟨hacc,turn5⟩:=turn i n acc σ5 H5 w5
  rcases turn5 with ⟨stop,qn⟩|⟨go,N,hN,step⟩
  .have d:=T.done Y hYp hYw hYK hYc i [] s5 σ5 H5 (fun _ _=>False) I5 (fY fr5) st5 stop
   rw[hYA]at d
   refine Aw d (fun r s6 ⟨hr,I6⟩=>?_) fun _ _ z=>z.elim
   subst hr;obtain⟨IX,fC,ns⟩:=toX I6
   refine hRR _ _ s6 ⟨⟨H5,IX,fC,qn⟩,ns,B0 I3.lt,I3.nofs (Af _),I3.sz,fun x c e z=>?_,fun p hp z=>?_⟩
   .obtain⟨v,q⟩:=I3.cell x c e
    exact absurd q.lt (by rw[z];exact Bi _)
   .exact absurd (Ad (I3.pin p hp).1) (by rw[z];exact Bi _)
  .have d:=T.item Y hYp hYw hYK hYc i [] s5 σ5 H5 (fun _ _=>False) I5 (fY fr5) st5 go
   rw[hYA]at d
   refine Aw d (fun r s6 ⟨u,hr,h6⟩=>?_) fun _ _ z=>z.elim
   subst hr
   refine Aw h6 (fun _ s7 ⟨x,H7,I7,r7,y7,st7,fr7⟩=>?_) fun _ _ z=>z.elim
   have hpl:∀b∈fp,∃o,(b,o)∈Y.pn++([]++jw fp s7.heap):=fun b hb=>by
    obtain⟨o,e,d⟩:=T.obj _ _ st7 b hb;exact⟨o,Au _ (Au _ (CH hb e))⟩
   have I7':=((I7.pinned (fY fr7) (T.obj _ _ st7)).inPn).wish (AN Y (Y.pn++([]++jw fp s7.heap)) E);have g7:=hgC _ _ s7 σ5 H7 x u _ I7' r7 (step x H7 y7);rw[hYp,hYw,hYA,hYe]at g7
   refine Aw g7 (fun _ s8 ⟨σ8,H8,I8,q8⟩=>?_) fun e s6 z=>exX e s6 hpl z
   have t8:=htC _ _ s8 σ8 H8 _ I8 q8;rw[hYp,hYw,hYA,hYe]at t8;have back:∀{σ9:St} {H9:Hp} {s9:Shared} {acc':List V},Inv ((Y.pinned (Y.pn++([]++jw fp s7.heap))).wish (AN Y (Y.pn++([]++jw fp s7.heap)) E)) [] σ9 H9 s9->N acc' σ9 H9->∃m,m<n/\∃i acc σ' H',Inv Y [] σ' H' s9/\tn i s9.heap/\(∀b∈fp,H' b=none)/\W i m acc σ' H':=fun {σ9 H9 s9 acc'} I9 w9=>by
    obtain⟨m',hm,w9⟩:=hN _ _ _ w9;have I9:=I9.unwish.unpin
    refine⟨m',hm,i+1,acc',σ9,H9,I9.unpinned,T.keep _ _ _ st7 fun b hb o e=>(I9.pin (b,o) (Au _ (Au _ (CH hb e)))).1,fun b hb=>?_,w9⟩
    obtain⟨o,e,d⟩:=T.obj _ _ st7 b hb;exact (I9.pin (b,o) (Au _ (Au _ (CH hb e)))).2.1
   refine Aw t8 (fun ok s9 ⟨H9,I9,q9⟩=>?_) fun e s6 z=>exX e s6 hpl z
   cases ok with
   |false=>
    rw[Ab (by simp)]at q9 ⊢
    exact back I9 q9
   |true=>
    rw[Aa rfl]at q9 ⊢;have e9:=heC _ _ s9 σ8 H9 _ I9 q9;rw[hYp,hYw,hYA,hYe]at e9
    refine Aw e9 (fun y s10 ⟨z,H10,I10,r10,hacc10,hlen,w10⟩=>?_) fun e s6 z=>exX e s6 hpl z
    have a10:=AM (X:=(Y.pinned (Y.pn++([]++jw fp s7.heap))).wish (AN Y (Y.pn++([]++jw fp s7.heap)) E)) _ s10 σ8 H10 (.ref s2.heap.objs.size) [z] (.ref s2.heap.objs.size) [y] (fun _ H'=>N (acc++[z]) σ8 H') I10 rfl (.cons r10 .nil) ⟨_,_,z,rfl,rfl,hacc10,hlen,w10⟩
    rw[hYp,hYw,hYA]at a10;exact Aw a10 (fun _ s11 ⟨_,H11,I11,_,w11⟩=>back I11 w11) fun e s6 z=>exX e s6 hpl z
 exact codeAny_compStart_list loop (T.self X.A 0 _ _ _ st4 loop)
end
def FZ (M:Model) (A:Around) (E:VP) (use:Option (Value->Sem Unit)) (Q:VP) (acc:Value) (ce:Env) (r:Result) (s':Shared):Prop:=
 match r with
 |.ok f=>compPost M A E use Q acc ce.locals (.ok f) s'
 |.error x=> ∃m,s'.heap.Ns ce.locals m/\∀h',Heap.SameBut ce.locals s'.heap h'->wpAny M A (passOn "comprehension.variables-let-go" x ce:Sem Value) (fun _ _=>False) E {s' with heap:=h'}
section
variable {M:Model} {A:Around} {E:VP} {s:Shared} {env:Env}
def JC {e:Expr} {scope:Scope} {pos:Pos} {mk first:Sem Value} {g:Comprehension} {gs:List Comprehension} {cl:List (Str×Addr)} {use:Option (Value->Sem Unit)} {Q:VP}
  (hc:clausesOf e=g::gs) (hf:∀x,foldedSetIterable g.iter env x=pure x) (hq:closureFor scope env=pure cl) (hk:scope.kind=.function) (hn:∀x∈scope.names,x.2=.local->scope.names.lookup x.1=some .local)
  (h:wpAny M A first (fun x s1=>wpAny M A (pyIter x) (fun it s2=>wpAny M A mk (fun acc s3=>wpAny M A (newFunctionEnv scope env.globals cl [] env.qual none .none (some env)) (fun ce s4=>
    codeAny M A (.compStart e 0 it acc {ce with scope:=relabel scope env}) (FZ M A E use Q acc {ce with scope:=relabel scope env}) s4) E s3) E s2) E s1) E s):
  wpAny M A (comprehension e scope env pos mk false first use) Q E s:=by
 unfold comprehension;rw[hq,hc]
 refine Ac (zp h fun x s1 h1=>Ac (Cd (Ac (wpAny_of_eq (hf x) (Ac (Bm (zp h1 fun it s2 h2=>wpAny_standIf (Ac (zp h2 fun acc s3 h3=>Ac (Ag (Ac (zp h3 fun ce s4 h4=>?_))))))))))))
 dsimp only;have v1:∀x∈(scope.names.filter fun x=>(x.2== .local || x.2== .cell) && x.1 !=(".0" :Str)).reverse,x.2=.local->Env.kindOf {ce with scope:=relabel scope env} x.1=some .local:=fun x hx hl=>lookup_relabel_local (hn x (List.mem_filter.mp (List.mem_reverse.mp hx)).1 hl)
 refine Bm (Ac (wpAny_attempt (Bm (wpAny_run (C2 h4 fun r s' hr=>?_)))))
 cases r with
 |ok f=>
  cases use with
  |none=>
   obtain⟨m,z,hr⟩:=hr;exact Ac (Bm (wpAny_comp_letGo (cenv:={ce with scope:=relabel scope env}) hk _ s' m v1 z fun h' m' _ y=>Ag (hr h' y)))
  |some u=>
   refine Ac (wpAny_rule (Ac (Bm (zp hr fun _ s2 hr'=>?_))))
   obtain⟨m,z,hr'⟩:=hr';exact Ac (wpAny_comp_letGo (cenv:={ce with scope:=relabel scope env}) hk _ s2 m (fun x hx hl=>v1 x ((A0.mp hx).elim List.mem_of_mem_drop List.mem_of_mem_take) hl) z fun h' m' _ y=>Ag (hr' h' y))
 |error x=>
  obtain⟨m,z,hr⟩:=hr;exact Ac (Bm (wpAny_comp_letGo (cenv:={ce with scope:=relabel scope env}) hk _ s' m v1 z fun h' m' _ y=>Aw (hr h' y) (fun _ _ f=>f.elim) fun _ _ y=>y))
def O0 {base:Heap} {l:List Env} {e L:Addr} {cls a0 fl:Value} {Q:Unit->Shared->Prop} (k:base.StaysIn s.heap) (en:base.get? e=none) (hl:s.heap.FunFrames base l) (t:s.heap.TracedAtW base e cls a0 fl)
  (h:∀h',Heap.HeldW base l e cls a0 L h'->s.heap.UpToSlots h'->Q () {s with heap:=h'}):wpAny M A (setFlight (.ref e) (some L)) Q E s:=by
 obtain⟨oe,vs,T,oT,ts,he,hcls,hd,h1,hnT,hTe,hT,hdT,h3⟩:=t;have z3:3<ts.size:=(Array.getElem?_eq_some_iff.mp h3).1
 have oth:∀b,b≠T->(s.heap.update T (Obj.mapFields (·.setIfInBounds 3 ((some L).elim Value.none fun f=>rawInt f)))).get? b=s.heap.get? b:=fun b hb=>D0 _ _ (Bl hb)
 have nr:∀b o,s.heap.get? b=some o->(∀vs,o.data≠ .fields vs)->b≠T:=fun b o hb hnf q=>by rw[q,hT]at hb;cases hb;exact hnf ts hdT
 unfold setFlight
 refine Ac (Bf he hd h1 ?_)
 rw[Aa (show (Value.ref T !=Value.none)=true from by simp)]
 refine wpAny_setField hT hdT z3 (h _ ⟨fun b o q=>(oth b fun z=>by rw[z,hnT]at q;cases q).trans (k b o q),en,hl.of_keeps fun b o hb hnf=>⟨o,(oth b (nr b o hb hnf)).trans hb,rfl⟩,?_⟩ fun b o hb hnf=>⟨o.slots,(oth b (nr b o hb hnf)).trans hb⟩)
 exact⟨oe,vs,T,_,_,(oth e (Bl hTe)).trans he,hcls,hd,h1,hnT,hTe,Heap.get?_update_self _ hT (Obj.isFreed_of_fields (Obj.data_mapFields hdT _)),Obj.data_mapFields hdT _,by simp[z3]⟩
end
theorem JD {base h h':Heap}:∀{l:List Env},h.FunFrames base l->(∀b∈zS l,h'.get? b=h.get? b)->h'.FunFrames base l
 | [],_,_=>trivial
 |env::_,⟨hk,⟨L,o,hf,hn,ho,hd⟩,hr⟩,k=>⟨hk,⟨L,o,hf,hn,(k L (EH env (.head _) L hf)).trans ho,hd⟩,JD hr fun b hb=>k b (by obtain⟨v,hv,e⟩:=Ce.mp hb;exact Ce.mpr ⟨v,.tail _ hv,e⟩)⟩
structure Leaves (X:Cx) (E:XK):Prop where
 ex:X.ex=[]
 st:X.stack=X.env::X.outer
 fm:X.env.frame=some X.env.locals
 xe:∀e s',wpAny (model X.prog X.w) X.A (leaving X.env e) (fun _ s''=>XT X.prog X.w X.outer X.H₀ X.s₀ E e s'') (fun e' s''=>XT X.prog X.w X.outer X.H₀ X.s₀ E e' s'') s'->X.xe e s'
def Hg {P:Program} {w:World} {K:FG} {mg:Str->Option Value} {base:Heap} {N:List Str} {qual:Str} {scope:Scope} {f:Addr} {cd:Value} {A:Around} {outer:List Env} {s0:Shared} {H0:Hp} {E:XK}:Leaves (yI (XT P w) P w K mg base N qual scope f cd A outer s0 H0 E) E:=⟨rfl,rfl,rfl,fun _ _ h=>h⟩
section
variable {X:Cx} {pins:AL} {σ:St} {E:XK} {C:Addr} {e:Value} {s1:Shared} {scope:Scope} {cl:List (Str×Addr)} {use:Option (Value->Sem Unit)} {Q:VP} {acc:Value}
theorem JE (V:Leaves X E) (c:CompExc X pins σ E C e s1):notedBy (model X.prog X.w) X.A (compEnvC scope cl C X.env) (fun e s'=>FZ (model X.prog X.w) X.A X.xe use Q acc (compEnvC scope cl C X.env) (.error e) s') e s1:=by
 obtain⟨⟨a,T,cls,a0,H',rfl,I,fC,ha,hT,na,nT,tr,q⟩,⟨m,ns⟩,neL,nfs,nC⟩:=c;have hfr:s1.heap.FunFrames X.base X.stack:=I.stack;have hfrm:X.A.frames=some (X.env::X.outer):=by rw[<-V.st];exact I.ok.frames
 have nCf:C∉zS X.stack:=fun z=>(Ae.mp (I.stkSub C z)).elim neL nfs
 obtain⟨oe,vs,oT,ts,t1,t2,t3,t4,t6,t7,t8,t9⟩:=tr;have fly:Heap.FlyingW (PySem.W.hideAll s1.heap (a::T::C::zS X.stack)) X.stack a cls a0 s1.heap:=
  ⟨fun b o z=>Cw _ z,Bx _ (.head _),Dk hfr fun e he b hb=>.tail _ (.tail _ (.tail _ (EH e he b hb))),oe,vs,T,oT,ts,t1,t2,t3,t4,Bx _ (.tail _ (.head _)),t6,t7,t8,t9⟩
 have nb:(PySem.W.hideAll s1.heap (a::T::C::zS X.stack)).get? C=none:=Bx _ (.tail _ (.tail _ (.head _)));have gB:∀b o,s1.heap.get? b=some o->b∉a::T::C::zS X.stack->(PySem.W.hideAll s1.heap (a::T::C::zS X.stack)).get? b=some o:=fun b o e n=>Dd _ e n
 generalize PySem.W.hideAll s1.heap (a::T::C::zS X.stack)=B at fly nb gB;rw[V.st]at fly;have en:∀ce:Env,ce.frame=X.env.frame->noteFrame (.ref a) ce=noteFrame (.ref a) X.env:=fun ce h=>by unfold noteFrame PySem.frameOf;rw[h]
 show wpAny _ X.A (noteFrame (.ref a) (compEnvC scope cl C X.env)) _ _ s1;rw[en (compEnvC scope cl C X.env) rfl]
 refine wpAny_looks_onW hfrm V.fm fly fun h4 held4 sm4=>?_
 have ns4:=sm4.ns ns
 refine⟨m,ns4,fun h5 sb5=>?_⟩
 have sb5:Heap.SameBut C h4 h5:=sb5;obtain⟨k1,k2,k3,oe4,vs4,T4,oT4,ts4,u1,u2,u3,u4,u5,u6,u7,u8,u9⟩:=held4;have nf:∀b o ws,h4.get? b=some o->o.data=.fields ws->b≠C:=fun b o ws e d z=>by
  obtain⟨oC,es,ep,ho,hd,_⟩:=ns4;rw[z,show h4.get? C=some oC from ho]at e
  cases e;rw[hd]at d;cases d
 have fr5:∀b∈zS (X.env::X.outer),h5.get? b=h4.get? b:=fun b hb=>sb5.2 b fun z=>nCf (by rw[V.st,<-z];exact hb)
 have st5:B.StaysIn h5:=fun b o z=>(sb5.2 b fun y=>by rw[y,nb]at z;cases z).trans (k1 b o z)
 have tr5:h5.TracedAtW B a cls a0 (rawInt X.env.locals):=⟨oe4,vs4,T4,oT4,ts4,(sb5.2 _ (nf _ _ _ u1 u3)).trans u1,u2,u3,u4,u5,u6,(sb5.2 _ (nf _ _ _ u7 u8)).trans u7,u8,u9⟩;have fn5:=JD k3 fr5;have last:wpAny (model X.prog X.w) X.A (setFlight (.ref a) (compEnvC scope cl C X.env).frame) (fun _ s'=>X.xe (.ref a) s') X.xe {s1 with heap:=h5}:=by
  rw[show (compEnvC scope cl C X.env).frame=some X.env.locals from V.fm]
  refine O0 st5 k2 fn5 tr5 fun h6 held6 sm6=>V.xe _ _ ?_
  unfold leaving
  refine Ac (wpAny_noteFrame_againW V.fm held6.2.2.2 ?_)
  refine wpAny_landsW held6 fun h7 fly7 sm7=>?_
  obtain⟨w1,w2,w3,oe7,vs7,T7,oT7,ts7,x1,x2,x3,x4,x5,x6,x7,x8,x9⟩:=fly7;have y:Left X.stack (a::T::C::zS X.stack) a T7 cls a0 s1.heap h7:=by
   refine⟨fun b o e n=>w1 b o (gB b o e n),fun b o e hb=>?_,⟨oe7,vs7,oT7,ts7,x1,x2,x3,x4,x6,x7,x8,x9⟩,fun b o e n z=>?_,fun hb=>?_⟩
   .obtain⟨_,o',ho',hn⟩:=hfr.mem hb
    rw[e]at ho';cases ho';obtain⟨sl4,e4⟩:=sm4 b o e hn;have e5:h5.get? b=some {o with slots:=sl4}:=(fr5 b (by rw[<-V.st];exact hb)).trans e4
    obtain⟨sl6,e6⟩:=(sm6.trans sm7) b _ e5 hn;exact⟨sl6,e6⟩
   .have:=gB b o e n
    rw[z,x5]at this;cases this
   .obtain⟨_,o',ho',hn⟩:=w3.mem (by rw[<-V.st];exact hb)
    rw[x7]at ho';cases ho';exact hn ts7 x8
  obtain⟨u,hk,n1,n2⟩:=I.left V.st V.ex y fun b hb=>by
   rcases Ae.mp hb with z|hb
   .rw[z];exact⟨.inr na,ha⟩
   .rcases Ae.mp hb with z|hb
    .rw[z];exact⟨.inr nT,hT⟩
    .rcases Ae.mp hb with z|hb
     .rw[z];exact⟨.inr nC,fC⟩
     .exact⟨.inl hb,I.stkFree b hb⟩
  exact⟨a,T7,cls,a0,H',rfl,I.os,I.bare,u,hk,na,n1,ha,n2,y.trc,q⟩
 unfold PySem.passOn
 refine Ac (Bf ((sb5.2 _ (nf _ _ _ u1 u3)).trans u1) u3 u4 ?_)
 rw[Ab (show ¬((Value.ref T4==Value.none)=true) from by simp)]
 first
  |exact Ac (Ag (Ac (zp last fun _ s' z=>wpAny_throw z)))
  |exact Ac (zp last fun _ s' z=>wpAny_throw z)
end
section
variable {X:Cx}
def O1 {elt tg iter:Expr} {ifs:List Expr} {loc free:List Str} {fr:List Nat} {scope:Scope} {pos:Pos} {wi:TI} {g:TG} {tc:TT} {te:TE} {E:XK} (V:Leaves X E) (hc:X.calm=true) (S:CompScope X loc free fr scope) (hi:PI X tg iter wi)
  (hg:∀cl C s H ex pn,PG (qy X (loc++free) scope cl C s H ex pn E) tg g) (ht:∀cl C s H ex pn,jb (qy X (loc++free) scope cl C s H ex pn E) ifs tc) (he:∀cl C s H ex pn,PE (qy X (loc++free) scope cl C s H ex pn E) elt te)
  (hs:∀x,foldedSetIterable iter X.env x=pure x:=by intro _;rfl):PE X (.ListComp elt [⟨tg,iter,ifs,0⟩] scope pos) (BG wi loc.length fr g tc te):=by
 intro pins s σ H Q I h;rw[eval_ListComp];obtain⟨cl,hcl,hc1,hc2⟩:=FF (scope:=scope) (env:=X.env) fun y hy hf=>I.ok.has y.1 (S.frees y hy hf)
 refine JC (use:=none) rfl hs hcl S.kind S.names ?_
 refine JB (RR:=fun acc ce=>FZ (model X.prog X.w) X.A X.xe none (EP X pins σ Q) acc ce) V.ex hc S hi hg ht he I h hc1 hc2 (fun D C s6 ce=>?_) fun D C s6 e x=>JE V x
 obtain⟨H5,IX,fC,q⟩:=ce.inv;obtain⟨m,hn⟩:=ce.ns;exact⟨m,hn,fun h7 hs7=>⟨.ref D,H5,IX.turned (t':=s6.toks) (fun b o hb e=>hs7.extBut b o hb e) fC ce.neL (.inr ce.new) ce.cel ce.pin,rfl,q⟩⟩
def O2 {i:Nat} {y:Str} {py:Pos} {spos:Pos} {elt tg iter:Expr} {ifs:List Expr} {loc free:List Str} {fr:List Nat} {scope:Scope} {pos:Pos} {wi:TI} {g:TG} {tc:TT} {te:TE} {E:XK} (hN:X.N.Nodup) (hi':X.N[i]? =some y) (hx:X.env.scope.names.lookup y=some .local)
  (V:Leaves X E) (hc:X.calm=true) (S:CompScope X loc free fr scope) (hi:PI X tg iter wi)
  (hg:∀cl C s H ex pn,PG (qy X (loc++free) scope cl C s H ex pn E) tg g) (ht:∀cl C s H ex pn,jb (qy X (loc++free) scope cl C s H ex pn E) ifs tc) (he:∀cl C s H ex pn,PE (qy X (loc++free) scope cl C s H ex pn E) elt te)
  (hs:∀x,foldedSetIterable iter X.env x=pure x:=by intro _;rfl)
  (hsw:swapsWith (.ListComp elt [⟨tg,iter,ifs,0⟩] scope pos) (some (.Name y py)) spos.line X.env=pure true:=by rfl):
  PS X (.Assign [.Name y py] (.ListComp elt [⟨tg,iter,ifs,0⟩] scope pos) spos) (tAsg (BG wi loc.length fr g tc te) (DN i)):=by
 intro pins s σ H D I h;obtain⟨cl,hcl,hc1,hc2⟩:=FF (scope:=scope) (env:=X.env) fun y hy hf=>I.ok.has y.1 (S.frees y hy hf)
 rw[exec_Assign_Name_used _ _ _ _ hsw]
 refine Ac (Cd (Ac ?_))
 show wpAny _ X.A (do let _ <-comprehension (.ListComp elt [⟨tg,iter,ifs,0⟩] scope pos) scope X.env _ (newList []) false (eval iter X.env) (some (assign (.Name y py) X.env))) _ _ s
 refine Ac (zp (JC (use:=some (assign (.Name y py) X.env)) (Q:=fun _ s'=>SP X pins D .next s') rfl hs hcl S.kind S.names ?_) (fun _ s' hq=>Ag (Ag hq)))
 refine JB (RR:=fun acc ce=>FZ (model X.prog X.w) X.A X.xe (some (assign (.Name y py) X.env)) (fun _ s'=>SP X pins D .next s') acc ce) V.ex hc S hi hg ht he I h hc1 hc2 (fun L C s6 ce=>?_) fun D C s6 e x=>JE V x
 obtain⟨H5,IX,fC,q⟩:=ce.inv;obtain⟨m,oC,es,ep,ho,hd,hk⟩:=ce.ns;show wpAny _ X.A (assign (.Name y py) X.env (.ref L)) _ _ s6;have IP:Inv X (pins++[(C,oC)]) σ H5 s6:=IX.pins_of fun p hp=>(A0.mp hp).elim (fun z=>IX.pin p (Au _ z)) fun z=>by
  rw[Ay.mp z];exact⟨ho,fC,ce.neL,ce.nfs,fun v e=>by rw[hd]at e;cases e⟩
 refine wpAny_assign_Name (E8 IP hN hi' (.inl hx) (v:= .ref L) rfl (fun s' I'=>?_) (.inr hx))
 have pc:=I'.pin (C,oC) (Au _ (Au _ An))
 refine⟨m,⟨oC,es,ep,pc.1,hd,hk⟩,fun h7 hs7=>?_⟩
 exact⟨_,H5,I'.unpinned.turned (t':=s'.toks) (fun b o hb e=>hs7.extBut b o hb e) fC ce.neL (.inr ce.new) ce.cel ce.pin,q⟩
end
end L2
namespace L3
open PySem PySem.Spec PyProof.Rows L2
section
variable {X:Cx} {κ:Kx} {E:XK} {F F1 F2 F':Fr} {σ σ':L2.St} {H H1 H2 H':Hp} {Q:VK} {p:Addr} {e a b o:Expr} {pos apos np:Pos} {i:Nat} {D:Ends}
open Classical in
def qH (ok:H3->Prop) (g:G3) (c:T3) (e:E3):List V3->List V3->S3->H3->Res (List V3)
 | [],acc,_,h=>if ok h then .ok acc h else .no
 |x::r,acc,s,h=>if ok h then match g x s with
  |none=>.no
  |some s1=>match c s1 h with
   |.ok true h1=>match e s1 h1 with
    |.ok v h2=>match v.fz with
     |some y=>if acc.length<sizeLine then qH ok g c e r (acc++[y]) s1 h2 else .no
     |none=>.no
    |.ex x h2=>.ex x h2
    |.no=>.no
   |.ok false h1=>qH ok g c e r acc s1 h1
   |_=>.no
  else .no
def AE (n:Nat) (fr:List Nat) (it:I3) (g:G3) (c:T3) (e:E3):E3:=fun s h=>(it s h).bind fun I h1=>(qH I.ok g c e I.xs [] (yc n fr s) h1).bind fun vs h2=>.ok (.m (.lst vs)) h2
def JF {n:Nat} {fr:List Nat} {it:I3} {g:G3} {c:T3} {d:E3} (h:zh κ E (AE n fr it g c d) σ H Q):BG (yo κ E it) n fr (yj κ g) (zO κ E0 c) (zh κ E d) σ H Q:=by
 obtain⟨F,rel,o⟩:=h
 refine (yh (K:=kI κ) zH rel o).mono fun J H1 ⟨β1,h1,I,e1,⟨r1,vs,rv,ir⟩,o1⟩=>fun D hD=>?_
 have hDH:H D=none:=e1.nw D hD
 let Oi:Addr->Prop:=fun a=>a=D\/F.O a
 have rn:=(r1.new (o:= .lst []) hD);have rh1:RelH κ Oi β1 h1 (zl H1 D (.lst [])):=rn.1.heap.sub fun a ha=>ha.elim (fun z=>.inl (by rw[z];exact An)) fun z=>Fr.O_with z
 have hO1:∀a u,H1 a=some u->¬F.O a->¬Oi a:=fun a u ha n z=>z.elim (fun w=>by subst w;rw[hD]at ha;cases ha) n
 let F0:Fr:=⟨Oi,[],β1,List.replicate (yc n fr F.s).length none,yc n fr F.s,h1⟩
 have sub0:∀(F':Fr),F'.T=[]->(∀a,some a∉F'.l)->F'.Oi=Oi->∀a,F'.O a->Oi a:=fun F' t l oi a ha=>by
  rcases ha with z|z|z
  .rw[t]at z;cases z
  .exact absurd z (l a)
  .rw[oi]at z;exact z
 have hlen:(yc n fr F.s).length=(qW n fr σ).length:=by unfold yc qW;simp
 have rel0:Rel κ F0 (qW n fr σ) (zl H1 D (.lst [])):=by
  refine⟨rh1.sub (sub0 F0 rfl (fun a=>ql) rfl),hlen,?_,fun i j a h=>absurd (Al h) ql,fun a ha=>absurd ha ql,fun a ha=>absurd ha ql,fun a ha=>(by cases ha),List.nodup_nil,fun i x hx=>?_⟩
  .show (List.replicate (yc n fr F.s).length (none:Option Addr)).length=(yc n fr F.s).length
   simp
  .obtain⟨j,y,hj,hi,hy,rfl⟩:=Jx hx
   obtain⟨v,hv,rv⟩:=r1.slot j _ hy
   refine⟨v,?_,Rep.sub (sub0 F0 rfl (fun a=>ql) rfl) (Rep.ext (yN hD) (fun _ z=>z.elim) hO1 (show Rep κ β1 F.O H1 y v from rv))⟩
   unfold qW;rw[Bp (by simpa using hi),B7,A2,hj]
   simp[hv]
 have rv0:Reps κ β1 Oi (zl H1 D (.lst [])) I.its vs:=rv.ext (yN hD) (fun _ z=>z.elim) hO1
 refine⟨fun i m acc σ' H'=>m=I.xs.length-i/\i<=I.xs.length/\H' D=some (.lst acc)/\∃(F':Fr) (acc3:List V3),Rel κ F' σ' H'/\F'.T=[]/\(∀a,some a∉F'.l)/\F'.Oi=Oi/\Reps κ F'.β Oi H' I.its vs/\Reps κ F'.β Oi H' acc3 acc/\Ext No β1 H1 F'.β H'/\
   Out κ E (kE κ) (F.to β1 h1) σ H1 Q ((qH I.ok g c d (I.xs.drop i) acc3 F'.s F'.h).bind fun vs h2=>.ok (.m (.lst vs)) h2),
  ⟨_,rfl,Bk _,yQ,F0,[],rel0,rfl,fun a=>ql,rfl,rv0,.nil,yN hD,o1⟩,?_⟩
 rintro i m acc σ' H' ⟨rfl,hi,hacc,F',acc3,rel',ht,hl,hoi,rits,racc,ex,out⟩
 refine⟨hacc,?_⟩
 have hO:∀a,F'.O a↔Oi a:=fun a=>⟨sub0 F' ht hl hoi a,fun z=>.inr (.inr (by rw[hoi];exact z))⟩
 have eO:F'.O=Oi:=funext fun a=>propext (hO a)
 by_cases hok:I.ok F'.h
 case neg=>
  exfalso
  cases q:I.xs.drop i with
  |nil=>rw[q]at out;unfold qH at out;rw[Ab hok]at out;exact out
  |cons x r=>rw[q]at out;unfold qH at out;rw[Ab hok]at out;exact out
 obtain⟨i1,i2⟩:=ir F' σ' H' rel' (by rw[eO];exact rits) hok i
 by_cases hlt:i<I.xs.length
 .obtain⟨go,yl⟩:=i1 hlt
  refine .inr ⟨go,fun acc' σ3 H5=>H5 D=some (.lst acc')/\∃(F':Fr) (acc3:List V3),Rel κ F' σ3 H5/\F'.T=[]/\(∀a,some a∉F'.l)/\F'.Oi=Oi/\Reps κ F'.β Oi H5 I.its vs/\Reps κ F'.β Oi H5 acc3 acc'/\Ext No β1 H1 F'.β H5/\
   Out κ E (kE κ) (F.to β1 h1) σ H1 Q ((qH I.ok g c d (I.xs.drop (i+1)) acc3 F'.s F'.h).bind fun vs h2=>.ok (.m (.lst vs)) h2),fun acc' σ3 H5 n5=>⟨_,by lia,rfl,hlt,n5⟩,fun x H2 y=>?_⟩
  obtain⟨x3,ex3,ey,ry,rp⟩:=yl x H2 y;have hd:I.xs.drop i=x3::I.xs.drop (i+1):=by
   rw[Ct hlt]
   congr 1
   rw[yq hlt]at ex3;exact Option.some.inj ex3
  rw[hd]at out;unfold qH at out;rw[Aa hok]at out;cases w:g x3 F'.s with
  |none=>simp only[w]at out;exact out.elim
  |some s1=>
   simp only[w]at out
   refine⟨F',x3,s1,ry,ht,rp,w,fun F3 σ3 e3 b3 s3 h3 r3=>?_⟩
   have hl3:∀a,some a∉F3.l:=fun a ha=>by
    rcases e3.lam a ha with z|z
    .exact hl a z
    .obtain⟨k,hk⟩:=C6 ha
     obtain⟨u,hu,_⟩:=r3.heap.trk a (.inr (.inl ha));rw[z]at hu;cases hu
   have hoi3:F3.Oi=Oi:=e3.oi.trans hoi;have eO3:F3.O=Oi:=funext fun a=>propext ⟨sub0 F3 e3.tt hl3 hoi3 a,fun z=>.inr (.inr (by rw[hoi3];exact z))⟩
   refine⟨F3,r3,?_⟩
   rw[s3,h3];cases q:c s1 F'.h with
   |no=>simp only[q]at out;exact out.elim
   |ex x h2=>simp only[q]at out;exact out.elim
   |ok cb h2=>
    simp only[q]at out;rintro β4 cb' H4 e4 ⟨rfl,r4⟩;have ex4:Ext No β1 H1 β4 H4:=(ex.trans0 ey).trans0 (by rw[b3]at e4;exact e4)
    have k4:∀{x:List V3} {v:List V},Reps κ F'.β Oi H' x v->Reps κ β4 Oi H4 x v:=fun r=>(r.ext0 ey).ext0 (by rw[b3]at e4;exact e4)
    have hD2:H2 D=some (.lst acc):=(ey.keep D _ hacc (rel'.heap.off D ((hO D).mpr (.inl rfl))) fun z=>z).1
    have hD4:H4 D=some (.lst acc):=(e4.keep D _ hD2 (r3.heap.off D (by rw[eO3];exact .inl rfl)) fun z=>z).1
    cases cb' with
    |false=>rw[Ab Ao];exact⟨hD4,F3.to β4 h2,acc3,r4,e3.tt,hl3,hoi3,k4 rits,k4 racc,ex4,by show Out _ _ _ _ _ _ _ ((qH I.ok g c d (I.xs.drop (i+1)) acc3 F3.s h2).bind _);rw[s3];exact out⟩
    |true=>
     rw[Aa rfl]
     refine⟨F3.to β4 h2,r4,?_⟩
     show Out κ E (kE κ) (F3.to β4 h2) σ3 H4 _ (d F3.s h2);rw[s3];cases q5:d s1 h2 with
     |no=>simp only[q5]at out;exact out.elim
     |ex x h5=>
      simp only[q5]at out;intro β5 H5 e5 p5;exact out β5 H5 (ex4.trans0 e5) (p5.sub fun a ha=>by show F3.Oi a;rw[hoi3];exact .inr (.inr (.inr ha)))
     |ok r5 h5=>
      simp only[q5]at out;intro β5 v5 H5 e5 p5;cases z:r5.fz with
      |none=>simp only[z]at out;exact out.elim
      |some y5=>
       simp only[z]at out
       by_cases hsz:acc3.length<sizeLine
       .rw[Aa hsz]at out
        obtain⟨r6,rep6⟩:=Post.fz p5 z;have hD5:H5 D=some (.lst acc):=(e5.keep D _ hD4 (r4.heap.off D (.inr (.inr (by show F3.Oi D;rw[hoi3];exact .inl rfl)))) fun z=>z).1
        have ex6:Ext (fun a=>a=D) β5 H5 β5 (zl H5 D (.lst (acc++[v5]))):=CQ ⟨_,hD5⟩
        have k6:∀{x:List V3} {v:List V},Reps κ β5 Oi H5 x v->Reps κ β5 Oi (zl H5 D (.lst (acc++[v5]))) x v:=fun r=>r.ext ex6 (fun b hb=>by rw[hb];exact .inl rfl) fun _ _ _ n=>n
        have rep6:Rep κ β5 Oi H5 y5 v5:=by
         have e:((F3.to β4 h2).to β5 h5).O=Oi:=eO3;have q:Rep κ β5 ((F3.to β4 h2).to β5 h5).O H5 y5 v5:=rep6;rw[e]at q;exact q
        have k45:∀{x:List V3} {v:List V},Reps κ β4 Oi H4 x v->Reps κ β5 Oi H5 x v:=fun r=>r.ext0 e5
        refine⟨hD5,by rw[<-racc.length];exact hsz,yQ,(F3.to β4 h2).to β5 h5,acc3++[y5],Rel.wrOi r6 (by show F3.Oi D;rw[hoi3];exact .inl rfl),e3.tt,hl3,hoi3,k6 (k45 (k4 rits)),k6 ((k45 (k4 racc)).append (.cons rep6 .nil)),?_,?_⟩
        .have e45:=ex4.trans0 e5
         refine⟨fun a u ha hn _=>?_,e45.len,e45.bet,fun a u ha=>?_,e45.nwb⟩
         .obtain⟨q1,q2⟩:=e45.keep a u ha hn fun z=>z
          exact⟨by rw[zI (fun z=>by subst z;rw[hD]at ha;cases ha)];exact q1,q2⟩
         .obtain⟨u',hu'⟩:=e45.there a u ha
          exact ex6.there a u' hu'
        .show Out _ _ _ _ _ _ _ ((qH I.ok g c d (I.xs.drop (i+1)) (acc3++[y5]) F3.s h5).bind _)
         rw[s3];exact out
       .rw[Ab hsz]at out;exact out.elim
 .have hi:i=I.xs.length:=by lia
  subst hi;rw[B4]at out;unfold qH at out;rw[Aa hok]at out
  refine .inl ⟨i2 (Af _),out F'.β (.ref D) H' ex ?_⟩
  have rh:RelH κ (fun a=>a=D\/(F.to β1 h1).O a) F'.β F'.h H':=rel'.heap.sub fun a ha=>(hO a).mpr ha
  refine⟨D,rfl,Rel.nextNew (F:=F.to β1 h1) r1 ex rh hD,⟨acc,hacc,racc.sub fun a ha=>?_⟩,hD⟩
  rcases ha with z|z
  .rcases Ae.mp z with z|z
   .exact .inl z
   .exact .inr (.inl z)
  .exact .inr (.inr z)
def JG {elt tg iter:Expr} {ifs:List Expr} {loc free:List Str} {fr:List Nat} {scope:Scope} {it:I3} {g:G3} {c:T3} {d:E3} (V:Leaves X E) (hc:X.calm=true) (S:CompScope X loc free fr scope) (hi:PI X tg iter (yo κ E it))
 (hg:∀cl C s H ex pn,PG (qy X (loc++free) scope cl C s H ex pn E) tg (yj κ g)) (ht:∀cl C s H ex pn,jb (qy X (loc++free) scope cl C s H ex pn E) ifs (zO κ E0 c)) (he:∀cl C s H ex pn,PE (qy X (loc++free) scope cl C s H ex pn E) elt (zh κ E d))
 (hs:∀x,foldedSetIterable iter X.env x=pure x:=by intro _;rfl):PE X (.ListComp elt [⟨tg,iter,ifs,0⟩] scope pos) (zh κ E (AE loc.length fr it g c d)):=yL (O1 V hc S hi hg ht he hs) fun _ _ _ h=>JF h
def O4 {y:Str} {py spos:Pos} {elt tg iter:Expr} {ifs:List Expr} {loc free:List Str} {fr:List Nat} {scope:Scope} {it:I3} {g:G3} {c:T3} {d:E3} (hN:X.N.Nodup) (hi':X.N[i]? =some y) (hx:X.env.scope.names.lookup y=some .local) (V:Leaves X E) (hc:X.calm=true) (S:CompScope X loc free fr scope) (hi:PI X tg iter (yo κ E it))
 (hg:∀cl C s H ex pn,PG (qy X (loc++free) scope cl C s H ex pn E) tg (yj κ g)) (ht:∀cl C s H ex pn,jb (qy X (loc++free) scope cl C s H ex pn E) ifs (zO κ E0 c)) (he:∀cl C s H ex pn,PE (qy X (loc++free) scope cl C s H ex pn E) elt (zh κ E d))
 (hs:∀x,foldedSetIterable iter X.env x=pure x:=by intro _;rfl) (hsw:swapsWith (.ListComp elt [⟨tg,iter,ifs,0⟩] scope pos) (some (.Name y py)) spos.line X.env=pure true:=by rfl):
 PS X (.Assign [.Name y py] (.ListComp elt [⟨tg,iter,ifs,0⟩] scope pos) spos) (zr κ E (sSet i (eGl (AE loc.length fr it g c d)))):=je (O2 hN hi' hx V hc S hi hg ht he hs hsw) fun D σ H h=>JF (J3 (GQ h))
end
end L3
namespace L2
open PySem PySem.Spec PyProof.Rows
def ItS (lo c:Int) (n:Nat):It:=⟨fun i _=>i<n,fun i H x H'=>H'=H/\x=.int (lo+i*c),fun i _=>n<=i⟩
def O5 {P:Program} {w:World} {K:FG} {tg:Expr} (it:Addr) (lo c:Int) (n:Nat):Turn P w K tg (ItS lo c n) [it] it (fun i h=>IsRangeIter h it (lo+(i:Nat)*c) ((n:Int)-(i:Nat)) c) where
 mem:=by simp
 obj:=fun i h st b hb=>by
  have e:b=it:=by simpa using hb
  subst e;exact⟨_,st,fun v z=>by
   have z':Data.fields _=Data.cell v:=z;cases z'⟩
 keep:=fun i h h' st k=>k it (by simp) _ st
 item:=by
  intro X hP hw hK hc i pins s σ H E I hf st hg;subst hP hw hK;obtain⟨f0,f1,f2,f3,f4,f5⟩:=hf it (by simp)
  have W:=Walks.range (prog:=X.prog) (w:=X.w) (I.ok.hd hc) it lo c n
  refine W.item i s _ _ hg st fun v h' tk hv st' kk=>?_
  obtain⟨t,rfl⟩:=hv;have I1:Inv X pins σ H {s with heap:=h',toks:=tk}:=I.turned (fun b o hb e=>kk b o (by simpa using hb) e) f0 f1 f3 f4 f5
  exact⟨_,rfl,EA (s:={s with heap:=h',toks:=tk}) (n:="range_iterator") st' rfl rfl (by decide) ⟨.int (lo+i*c),H,I1,⟨t,rfl⟩,⟨rfl,rfl⟩,st',fun b hb=>(hf b hb).1⟩⟩
 done:=by
  intro X hP hw hK hc i pins s σ H E I hf st hg;subst hP hw hK;obtain⟨f0,f1,f2,f3,f4,f5⟩:=hf it (by simp)
  exact wpAny_pyNext_range_end (I.ok.hd hc) st (by have:n<=i:=hg;lia) fun h' eb=>⟨rfl,I.turned (t':=s.toks) (fun b o hb e=>eb b o hb e) f0 f1 f3 f4 f5⟩
 self:=fun _ _ _ _ _ st h=>wpAny_pyIter_rangeiter st h
def jk (lo hi c:Int):Nat:=((hi-lo+(c-1)) / c).toNat
def O6 {lo hi c:Int} (hc:0<c):Builtin.Range.rangeSize lo hi c=(jk lo hi c:Int):=by
 unfold Builtin.Range.rangeSize jk;rw[Aa hc]
 by_cases h:lo<hi
 .rw[Aa h]
  have e:hi-lo+(c-1)=(hi-lo-1)+1*c:=by lia
  rw[e,Int.add_mul_ediv_right _ _ (by lia)]
  have:=Int.ediv_nonneg (a:=hi-lo-1) (b:=c) (by lia) (by lia)
  lia
 .rw[Ab h]
  have:(hi-lo+(c-1)) / c<1:=(Int.ediv_lt_iff_lt_mul hc).mpr (by lia)
  lia
def O7 {a b c:Int} (hc:0<c) (hc':c<2 ^ 30) (ha: -(2 ^ 60)<=a) (ha':a<2 ^ 60) (hb: -(2 ^ 60)<=b) (hb':b<2 ^ 60):Builtin.Range.small a b c=true:=by
 unfold Builtin.Range.small;simp only[Builtin.Range.rangeFitsLong,Be,Bool.or_eq_true,B9,Bt,Aa hc];have h1:0<=Builtin.Range.rangeSize a b c/\Builtin.Range.rangeSize a b c<=2 ^ 62:=by
  unfold Builtin.Range.rangeSize;rw[Aa hc]
  by_cases h:a<b
  .rw[Aa h]
   have:=Int.ediv_nonneg (a:=b-a-1) (b:=c) (by lia) (by lia)
   have:=Int.ediv_le_self c (show (0:Int)<=b-a-1 by lia)
   lia
  .rw[Ab h];lia
 lia
section
variable {X:Cx} {tg:Expr}
def O8 {pins:AL} {σ:St} {H:Hp} {s:Shared} {R:It->Hp->Prop} {E:VP} {lo hi c:Int} {t u v:Tok} {tk:Nat} (I:Inv X pins σ H s) (hs:Builtin.Range.small lo hi c=true) (hc:0<c)
  (q:R (ItS lo c (jk lo hi c)) H):wpAny (model X.prog X.w) X.A (pyIter (.ref s.heap.objs.size)) (PIE X pins σ tg R) E {s with heap:=s.heap.push {cls:= .type "range",data:= .fields #[.int lo t,.int hi u,.int c v]},toks:=tk}:=by
 refine wpAny_pyIter_range (IsRange.new ..) hs ?_
 have I1:Inv X pins σ H {s with heap:=s.heap.push {cls:= .type "range",data:= .fields #[.int lo t,.int hi u,.int c v]},toks:=tk}:=I.kept fun b o e=>Aq _ e
 refine⟨(s.heap.push {cls:= .type "range",data:= .fields #[.int lo t,.int hi u,.int c v]}).objs.size,[(s.heap.push {cls:= .type "range",data:= .fields #[.int lo t,.int hi u,.int c v]}).objs.size],_,_,H,rfl,
  I1.kept (t':=tk) fun b o e=>Aq _ e,O5 _ lo c (jk lo hi c),?_,fun b hb=>?_,q⟩
 .have e1:lo+((0:Nat):Int)*c=lo:=by simp
  have e2:((jk lo hi c:Nat):Int)-((0:Nat):Int)=Builtin.Range.rangeSize lo hi c:=by rw[O6 hc];simp
  show IsRangeIter _ _ (lo+((0:Nat):Int)*c) (((jk lo hi c:Nat):Int)-((0:Nat):Int)) c;rw[e1,e2];exact A1 _ rfl
 .have e:b=(s.heap.push {cls:= .type "range",data:= .fields #[.int lo t,.int hi u,.int c v]}).objs.size:=by simpa using hb
  subst e;exact I1.fpOk (Af _) (I1.hok.fresh (Af _))
def RgOk (i j c:Int):Prop:=0<c/\c<2 ^ 30/\ -(2 ^ 60)<=i/\i<2 ^ 60/\ -(2 ^ 60)<=j/\j<2 ^ 60
instance {i j c:Int}:Decidable (RgOk i j c):=inferInstanceAs (Decidable (_/\_))
def O9 (ta:TA):TI:=fun σ H R=>ta σ H fun vs H1=> ∃i j c:Int,vs=[.int i,.int j,.int c]/\RgOk i j c/\R (ItS i c (jk i j c)) H1
def OA {a b c:Expr} {ta:TA} {p pos:Pos} (hg:Gl X "range") (hm:X.mg "range" =none) (ha:PA X [a,b,c] ta) (hs:starEach [a,b,c] X.env=[(false,eval a X.env),(false,eval b X.env),(false,eval c X.env)]:=by rfl) (hs2:starEach [b,c] X.env=[(false,eval b X.env),(false,eval c X.env)]:=by rfl):
  PI X tg (.Call (.Name "range" p) [a,b,c] [] pos) (O9 ta):=by
 intro pins s σ H R I h
 refine Call_ (CG I hg hm boot_range (C0 (zp (ha pos pins s σ H _ I h) fun us s1 ⟨vs,H1,I1,r1,q1⟩=>?_) (by rw[hs,hs2]) (by rw[hs2];rfl)))
 obtain⟨i,j,c,e,⟨q1,q2,q3,q4,q5,q6⟩,q⟩:=q1;subst e;obtain⟨u,v,t,rfl,⟨t1,rfl⟩,⟨t2,rfl⟩,⟨t3,rfl⟩⟩:=vals3 r1;exact call_range_3 (by lia) (O8 I1 (O7 q1 q2 q3 q4 q5 q6) q1 q) (.inl (PyProof.noPylong_small (by lia)))
end
end L2
namespace L3
open PySem PySem.Spec PyProof.Rows L2
section
variable {X:Cx} {κ:Kx} {E:XK} {a b c:Expr} {np pos:Pos}
def iR3 (a:A3):I3:=fun s h=>(a s h).bind fun fs h1=>match fs with
 | [.x (.int i),.x (.int j),.x (.int c)]=>if RgOk i j c then .ok ⟨[],(List.range (jk i j c)).map fun k=>.int (i+(k:Nat)*c),fun _=>True⟩ h1 else .no
 |_=>.no
def OB {lo c:Int} {n:Nat}:IR κ ⟨[],(List.range n).map fun k=>.int (lo+(k:Nat)*c),fun _=>True⟩ [] (ItS lo c n):=fun F σ H rel _ _ i=>by
 have el:((List.range n).map fun k=>V3.int (lo+(k:Nat)*c)).length=n:=by simp
 refine⟨fun hi=>⟨show i<n by rw[el]at hi;exact hi,fun x H' ⟨e1,e2⟩=>?_⟩,fun hi=>show n<=i by rw[el]at hi;exact hi⟩
 subst e1;subst e2;have hi:i<n:=by simpa using hi
 exact⟨.int (lo+i*c),by simp[hi],Ext.refl,rel,.int _⟩
def OC {tg:Expr} {t:A3} (hg:Gl X "range") (hm:X.mg "range" =none) (ha:PA X [a,b,c] (zN κ E t)) (hs:starEach [a,b,c] X.env=[(false,eval a X.env),(false,eval b X.env),(false,eval c X.env)]:=by rfl) (hs2:starEach [b,c] X.env=[(false,eval b X.env),(false,eval c X.env)]:=by rfl):PI X tg (.Call (.Name "range" np) [a,b,c] [] pos) (yo κ E (iR3 t)):=PIw (OA hg hm ha hs hs2) fun σ H R ⟨F,rel,o⟩=>
 (yh (K:=kA κ) km_I rel o).mono fun vs H1 ⟨β1,h1,fs,e1,⟨r1,rf⟩,o1⟩=>by
  match fs,rf,o1 with
  | [.x (.int i),.x (.int j),.x (.int c)],rf,o1=>
   match vs,rf with
   | [v,w,u],.cons rv (.cons rw' (.cons ru .nil))=>
    cases (show Rep κ β1 F.O H1 (.int i) v from rv)
    cases (show Rep κ β1 F.O H1 (.int j) w from rw')
    cases (show Rep κ β1 F.O H1 (.int c) u from ru)
    by_cases hj:RgOk i j c
    .simp only[Aa hj]at o1
     exact⟨i,j,c,rfl,hj,o1 β1 _ H1 Ext.refl ⟨r1,[],.nil,OB⟩⟩
    .simp only[Ab hj]at o1;exact o1.elim
end
end L3
namespace L2
open PySem PySem.Spec PyProof.Rows
section
variable {X:Cx}
def AX (z:Str):List V:=z.cps.toList.map fun c=>V.str ⟨#[c]⟩
def OD (hc:X.calm=true):yM X (.type "list") (fun xs H Q=> ∃z:Str,xs=[.str z]/\z.length<=sizeLine/\∀l,H l=none->Q (.ref l) (zl H l (.lst (AX z)))):=by
 intro pins s σ H xs us Q I r h;obtain⟨z,rfl,hz,q⟩:=h;obtain⟨u,rfl,rx⟩:=qP r;obtain⟨t,rfl⟩:=rx
 refine call_list_str (I.ok.hd hc) z t (fun h' tk acc' c' hk e ⟨hs,hit⟩=>?_) hz
 have len:(AX z).length=acc'.toList.length:=by unfold AX;rw[Ah,Bz,Bz];exact hs.symm
 have rv:Vals (AX z) acc'.toList:=by
  refine L2.Paired.of_get len fun i x v hx hv=>?_
  rw[C7]at hv;obtain⟨c,u,hc',rfl⟩:=hit i v hv;unfold AX at hx;rw[A2,C7,hc']at hx;cases hx;exact⟨u,rfl⟩
 have hl:(AX z).length<=sizeLine:=by unfold AX;rw[Ah,Bz];exact hz
 exact⟨.ref s.heap.objs.size,_,I.laid (t':=tk) hk (Af _) (show ObjOk X.prog X.w _ h' _ (.lst (AX z)) from ⟨hl,acc'.toList,c',rv,e⟩),rfl,q _ (I.hok.fresh (Af _))⟩
def OE:OpR X (binaryOp .Mult) (fun x y H Q=> ∃(z:Str) (n:Int),x=.str z/\y=.int n/\(n=0\/n=1)/\Q (.str (if n=1 then z else Str.empty)) H):=by
 intro pins s σ H x y v u Q I rx ry h;obtain⟨z,n,rfl,rfl,hn,q⟩:=h;obtain⟨t,rfl⟩:=rx;obtain⟨t',rfl⟩:=ry
 rcases hn with rfl|rfl
 .exact PySem.P.mul_str_none (by decide) (by decide) ⟨.str Str.empty,H,I.tok _,⟨_,rfl⟩,q⟩
 .refine PySem.P.mul_str (by decide) (fun _ h=>by simp at h) (fun _ h=>by simp at h) ?_
  rw[Ab (by decide),Aa (by simp)]
  exact⟨.str z,H,I,⟨_,rfl⟩,q⟩
end
end L2
namespace L2
open PySem PySem.Spec PySem.W PyProof.Rows
def ItES (z:Str):It:=
 ⟨fun i _=>i<z.length,fun i H v H'=> ∃(T:Addr) (c:Nat),v=.ref T/\H T=none/\H'=zl H T (.tup [.int i,.str ⟨#[c]⟩])/\z.cps[i]? =some c,fun i _=>z.length<=i⟩
def JH {h:Heap} {it:Addr} {T:String} {z:Str} {t:Tok} {i:Nat} (a:h.IsStrIter it T z t i):∃o,h.get? it=some o:=let ⟨o,e,_⟩:=a;⟨o,e⟩
def Ga {P:Program} {w:World} {A:Around} (hh:A.handled=none) (it:Addr) (z:Str) (t:Tok):
  Draws P w A it [it] z.cps.size (fun i v=> ∃c u,z.cps[i]? =some c/\v=.str ⟨#[c]⟩ u) (fun i h=>h.IsStrIter it (strIterType z) z t i):=by
 unfold strIterType;cases z.cps.all (· < 128)
 .exact Draws.strWide hh it z t
 .exact Draws.strAscii hh it z t
def EsSt (e it:Addr) (z:Str) (t:Tok) (i:Nat) (h:Heap):Prop:=i<=z.length/\(∃old,IsEnum h e it (i:Int) old)/\h.IsStrIter it (strIterType z) z t i
def OF {P:Program} {w:World} {K:FG} {elts:List Expr} {x1} {tp:Pos} {e it:Addr} {z:Str} {t:Tok} (hne:e≠it):Turn P w K (.Tuple elts x1 tp) (ItES z) [e,it] e (EsSt e it z t) where
 mem:=by simp
 obj:=fun i h st c hc=>by
  obtain⟨_,⟨old,hz⟩,⟨o1,e1,_,d1⟩⟩:=st;simp only[Ae,A7,Az]at hc
  rcases hc with rfl|rfl
  .exact⟨_,hz,fun v e=>by cases e⟩
  .exact⟨_,e1,fun v e=>by rw[d1]at e;cases e⟩
 keep:=fun i h h' st k=>by
  obtain⟨hi,⟨old,hz⟩,⟨o1,e1,r⟩⟩:=st;exact⟨hi,⟨old,k e (by simp) _ hz⟩,⟨o1,k it (by simp) o1 e1,r⟩⟩
 item:=fun X hp hw hK hc i pins s σ H E I fp st go=>by
  subst hp hw hK;obtain⟨_,⟨old,hz⟩,h1⟩:=st
  refine wpAny_pyNext_enum_itemD (Ga (A:=X.A.in1) (I.ok.hd hc) it z t) hz h1 go hne (fun m=>hne (by simpa using m)) fun x h' tk ⟨c,u,hx,ex⟩ a1 a2 a3 a4 hk=>?_
  subst ex
  refine⟨_,rfl,wpAny_letOwnedTupleGo_enum a1 fun h'' b1 b2=>?_⟩
  have nz:s.heap.objs.size≠e:=B0 (Ad hz);have k2:∀c o,c∉[e,it]->s.heap.get? c=some o->h''.get? c=some o:=fun c o hcn y=>by
   simp only[Ae,A7,Az,not_or]at hcn;exact b2.extBut _ _ hcn.1 (hk c o hcn.1 hcn.2 y)
  have I':Inv X pins σ (zl H s.heap.objs.size (.tup [.int i,.str ⟨#[c]⟩])) {s with heap:=h'',toks:=tk+1}:=
   I.turnLay (ch:=[e,it]) k2 (fun c hcn=>fp c hcn) (Af _)
    ⟨by show 2<=sizeLine;decide,[.int i tk,.str ⟨#[c]⟩ u],.cons ⟨_,rfl⟩ (.cons ⟨_,rfl⟩ .nil),⟨_,b2.extBut _ _ nz a3,rfl,_,rfl⟩⟩
  have nf:H s.heap.objs.size=none:=I.hok.fresh (Af _);obtain⟨o2,e2,r2⟩:=a2
  refine⟨.ref s.heap.objs.size,_,I',rfl,⟨_,c,rfl,nf,rfl,hx⟩,⟨go,⟨_,by simpa using b1⟩,⟨o2,b2.extBut _ _ hne.symm e2,r2⟩⟩,fun c hcn=>?_⟩
  have hc1:=fp c hcn;have:c≠s.heap.objs.size:=by
   have hlt:c<s.heap.objs.size:=by
    simp only[Ae,A7,Az]at hcn
    rcases hcn with rfl|rfl
    .exact Ad hz
    .obtain⟨_,y⟩:=JH h1;exact Ad y
   exact Ap hlt
  rw[zI this];exact hc1.1
 done:=fun X hp hw hK hc i pins s σ H E I fp st stop=>by
  subst hp hw hK;obtain⟨hi,⟨old,hz⟩,h1⟩:=st;have e0:i=z.cps.size:=Nat.le_antisymm hi stop;subst e0
  refine wpAny_pyNext_enum_endD (Ga (A:=X.A.in1) (I.ok.hd hc) it z t) hz h1 fun h' hk=>⟨rfl,?_⟩
  refine I.turnedL (ch:=[e,it]) (t':=s.toks) (fun c o hcn y=>?_) (fun c hcn=>fp c hcn)
  simp only[Ae,A7,Az,not_or]at hcn;exact hk c o hcn.2 y
 self:=fun A i s Q E st h=>by
  obtain⟨_,⟨old,hz⟩,_⟩:=st;exact wpAny_pyIter_enum hz h
def OG (ta:TA):TI:=fun σ H R=>ta σ H fun vs H1=> ∃z:Str,vs=[.str z]/\R (ItES z) H1
def OH {X:Cx} {elts:List Expr} {x1} {tp:Pos} {e1:Expr} {ta:TA} {p pos:Pos} (hg:Gl X "enumerate") (hm:X.mg "enumerate" =none) (ha:PA X [e1] ta) (hs:starEach [e1] X.env=[(false,eval e1 X.env)]:=by rfl):
  PI X (.Tuple elts x1 tp) (.Call (.Name "enumerate" p) [e1] [] pos) (OG ta):=by
 intro pins s σ H R I h
 refine Call_ (CG I hg hm (by rfl) (C0 (zp (ha pos pins s σ H _ I h) fun us s1 ⟨vs,H1,I1,r1,q1⟩=>?_) hs rfl))
 obtain⟨z,rfl,q⟩:=q1;obtain⟨u,rfl,ru⟩:=qP r1;obtain⟨t,rfl⟩:=ru
 refine call_enumerate_str fun h' hz hi1 hsz hk=>?_
 refine wpAny_pyIter_enum hz ?_
 have I2:Inv X pins σ H1 {s1 with heap:=h'}:=I1.kept (t':=s1.toks) hk
 refine⟨_,[s1.heap.objs.size+1,s1.heap.objs.size],_,_,H1,rfl,I2,OF (t:=t) (B0 (Nat.lt_succ_self _)),⟨Bk _,⟨_,hz⟩,hi1⟩,fun c hc=>?_,q⟩
 have hge:s1.heap.objs.size<=c:=by
  simp only[Ae,A7,Az]at hc
  rcases hc with rfl|rfl
  all_goals first|exact Af _|exact Nat.le_add_right _ _
 exact I1.fpOk hge (I1.hok.fresh hge)
end L2
namespace L3
open PySem PySem.Spec PyProof.Rows L2
section
variable {X:Cx} {κ:Kx} {E:XK} {a b:Expr} {np pos:Pos}
def qp (z:Str):List V3:=z.cps.toList.map fun c=>V3.str ⟨#[c]⟩
def Ec:FB:=fun s h fs=>match fs with
 | [.x (.str z)]=>if z.length<=sizeLine then some (.m (.lst (qp z))) else none
 |_=>none
theorem JI {β:AO} {O:Addr->Prop} {H:Hp}:∀l:List Nat,Reps κ β O H (l.map fun c=>V3.str ⟨#[c]⟩) (l.map fun c=>V.str ⟨#[c]⟩)
 | []=>.nil
 |c::r=>.cons (.str _) (JI r)
def OI:qD κ (fun xs H Q=> ∃z:Str,xs=[.str z]/\z.length<=sizeLine/\∀l,H l=none->Q (.ref l) (zl H l (.lst (AX z)))) Ec:=fun F σ H fs z vs Q rel r e k=>by
 unfold Ec at e
 split at e
 .rename_i z
  obtain⟨hz,rfl⟩:=qK e;obtain⟨v,rfl,rv⟩:=p1 r;cases (show Rep κ F.β F.O H (.str z) v from rv)
  exact⟨z,rfl,hz,fun l hl=>k _ _ (yN hl) (Post.lst rel hl (JI _))⟩
 .cases e
def Ed:F2:=fun _ _ x y=>match x,y with
 |.x (.str z),.x (.int n)=>if n=0\/n=1 then some (.v (.str (if n=1 then z else Str.empty))) else none
 |_,_=>none
def OJ:OpSim κ (fun x y H Q=> ∃(z:Str) (n:Int),x=.str z/\y=.int n/\(n=0\/n=1)/\Q (.str (if n=1 then z else Str.empty)) H) Ed:=fun F σ H x y z v w Q rel rx ry e k=>by
 unfold Ed at e
 split at e
 .rename_i z n
  obtain⟨hn,rfl⟩:=qK e;cases (show Rep κ F.β F.O H (.str z) v from rx)
  cases (show Rep κ F.β F.O H (.int n) w from ry)
  exact⟨z,n,rfl,rfl,hn,k _ H Ext.refl ⟨rel,.str _⟩⟩
 .cases e
def Hh (a:A3):I3:=fun s h=>(a s h).bind fun fs h1=>match fs with
 | [.x (.str z)]=>.ok ⟨[],(List.range z.length).map fun k=>.tup [.int (k:Nat),(qp z).getD k .non],fun _=>True⟩ h1
 |_=>.no
def OK {elts:List Expr} {x1} {tp:Pos} {t:A3} (hg:Gl X "enumerate") (hm:X.mg "enumerate" =none) (ha:PA X [a] (zN κ E t)) (hs:starEach [a] X.env=[(false,eval a X.env)]:=by rfl):PI X (.Tuple elts x1 tp) (.Call (.Name "enumerate" np) [a] [] pos) (yo κ E (Hh t)):=PIw (OH hg hm ha hs) fun σ H R ⟨F,rel,o⟩=>
 (yh (K:=kA κ) km_I rel o).mono fun vs H1 ⟨β1,h1,fs,e1,⟨r1,rf⟩,o1⟩=>by
  match fs,rf,o1 with
  | [.x (.str z)],rf,o1=>
   obtain⟨v,rfl,rv⟩:=p1 rf;cases (show Rep κ β1 F.O H1 (.str z) v from rv)
   refine⟨z,rfl,o1 β1 _ H1 Ext.refl ⟨r1,[],.nil,fun F' σ' H' rel' _ _ i=>?_⟩⟩
   have el:((List.range z.length).map fun k=>V3.tup [.int (k:Nat),(qp z).getD k .non]).length=z.length:=by simp
   refine⟨fun hi=>?_,fun hi=>show z.length<=i by rw[el]at hi;exact hi⟩
   rw[el]at hi
   refine⟨hi,fun x' H'' ⟨T,c,e1,hT,e2,hc⟩=>?_⟩
   subst e1;subst e2;obtain⟨q1,q2,q3⟩:=Rel.tup2 (x:= .int (i:Nat)) (v:= .int (i:Nat)) (y:= .str ⟨#[c]⟩) (w:= .str ⟨#[c]⟩) rel' hT (.int _) (.str _)
   refine⟨.tup [.int (i:Nat),.str ⟨#[c]⟩],?_,q1,q2,q3⟩
   have hg:(qp z).getD i .non=.str ⟨#[c]⟩:=by
    unfold qp;rw[Cj,A2,C7,hc];rfl
   rw[A2,Cu hi];show some (V3.tup [.int (i:Nat),(qp z).getD i .non])=_;rw[hg]
end
end L3
namespace L2
open PySem PySem.Spec PySem.W PyProof.Rows
section
variable {P:Program} {w:World} {A:Around} {E:VP} {s:Shared} {z TI TO i1 i2 l:Addr} {k n:Nat} {xs:Array Value} {x a b:Value} {R:Nat->Value->Prop} {St:Nat->Heap->Prop}
theorem Draws.at2 (D2:Draws P w A i2 [i2] n R St) {h h':Heap} {i:Nat} (st:St i h) (k:∀o,h.get? i2=some o->h'.get? i2=some o):St i h':=D2.frame i h h' st fun c hc o e=>by
 have q:c=i2:=by simpa using hc
 subst q;exact k o e
theorem JJ {Q:Fin->Shared->Prop} (D:ZipApart z TI TO i1 i2 l l) (hz:IsZip s.heap z TI TO .none) (hTI:IsPair s.heap TI (.ref i1) (.ref i2)) (hTO:IsPair s.heap TO a b) (h1:s.heap.IsListIter i1 l k) (hl:s.heap.IsList l xs) (hx:xs[k]? =some x) (D2:Draws P w A i2 [i2] n R St) (h2:St k s.heap)
  (hy:k<n\/k=n)
  (hQ:∀y h' tk,k<n->R k y->IsZip h' z TI TO (rawInt s.heap.objs.size)->IsPair h' TO x y->h'.IsListIter i1 l (k+1)->St (k+1) h'->IsPair h' s.heap.objs.size x y->
   (∀c o,c≠z->c≠TO->c≠i1->c≠i2->s.heap.get? c=some o->h'.get? c=some o)->Q (.done (.ret (.ref s.heap.objs.size))) {s with heap:=h',toks:=tk})
  (hE:k=n->∀h' e,(∀c o,c≠z->c≠TO->c≠i1->c≠i2->s.heap.get? c=some o->h'.get? c=some o)->(∃o,h'.get? e=some o/\o.cls=.type "StopIteration")->E (.ref e) {s with heap:=h'}):
  wpAny (model P w) A (Builtin.«zip.__next__» ⟨[.ref z],[]⟩) Q E s:=by
 show wpAny _ _ (field (.ref z) 2 >>=_) _ _ _
 refine Ac (Bf hz rfl (x:= .bool false) rfl ?_)
 show wpAny _ _ (field (.ref z) 3 >>=_) _ _ _
 refine Ac (Bf hz rfl (x:= .ref TI) rfl (Ac (C9 hTI rfl ?_)))
 show wpAny _ _ (Builtin.SmallTypes.ownedTupleIsFree (.ref z) >>=_) _ _ _;unfold Builtin.SmallTypes.ownedTupleIsFree
 refine Ac (Ac (Bf hz rfl (x:= .none) rfl (Ag ?_)))
 simp only[Bb]
 refine Ac (wpAny_rule (Ac (Bf hz rfl (x:= .ref TO) rfl (Ac (Cv hz (by simp) fun g1 z1 s1=>?_)))))
 replace z1:IsZip g1 z TI TO .ellipsis:=z1
 refine Ac ?_
 simp only[List.zipIdx_cons,List.zipIdx_nil,List.forIn_cons,List.forIn_nil]
 refine Ac (Ac (wpAny_onRaise ?_))
 show wpAny _ _ (Builtin.SmallTypes.nextOf (.ref i1) >>=_) _ _ _
 refine Ac (wpAny_nextOf_list_item (h1.extBut s1.extBut D.i1z) (hl.extBut s1.extBut D.l1z) hx fun g2 l2 s2=>Ag ?_)
 have t2:IsPair g2 TO a b:=s2.extBut _ _ D.TOi1 (s1.extBut _ _ D.TOz hTO)
 refine Ac (C9 t2 rfl (Ac (wpAny_updateSeq_pair t2 fun g3 t3 s3=>Ac (wpAny_letGo (Ag ?_)))))
 replace t3:IsPair g3 TO x b:=t3
 have st3:St k g3:=Draws.at2 D2 h2 fun o e=>s3.extBut _ _ D.TOi2.symm (s2.extBut _ _ D.i12.symm (s1.extBut _ _ D.i2z e))
 have up3:∀c o,c≠z->c≠TO->c≠i1->c≠i2->s.heap.get? c=some o->g3.get? c=some o:=fun c o c1 c2 c3 c4 e=>s3.extBut _ _ c2 (s2.extBut _ _ c3 (s1.extBut _ _ c1 e))
 have z3:IsZip g3 z TI TO .ellipsis:=s3.extBut _ _ D.TOz.symm (s2.extBut _ _ D.i1z.symm z1)
 refine Ac (Ac (wpAny_onRaise ?_))
 show wpAny _ _ (Builtin.SmallTypes.nextOf (.ref i2) >>=_) _ _ _
 rcases hy with hy|hy
 .refine Ac (D2.item k _ _ _ hy st3 fun y g4 tk py st4 s4=>Ag ?_)
  have t4:IsPair g4 TO x b:=s4.extBut _ _ D.TOi2 t3
  refine Ac (C9 t4 rfl (Ac (wpAny_updateSeq_pair t4 fun g5 t5 s5=>Ac (wpAny_letGo (Ag (Ag ?_))))))
  replace t5:IsPair g5 TO x y:=t5
  refine Ac (C9 t5 rfl (Ac (wpAny_newTuple ?_)))
  have sz:g5.objs.size=s.heap.objs.size:=by rw[s5.1,s4.1];show g3.objs.size=_;rw[s3.1];show g2.objs.size=_;rw[s2.1];show g1.objs.size=_;rw[s1.1]
  have z5:IsZip g5 z TI TO .ellipsis:=s5.extBut _ _ D.TOz.symm (s4.extBut _ _ D.i2z.symm z3);have l5:g5.IsListIter i1 l (k+1):=((l2.extBut s3.extBut D.TOi1.symm).extBut s4.extBut D.i12).extBut s5.extBut D.TOi1.symm;have st5:St (k+1) g5:=Draws.at2 D2 st4 fun o e=>s5.extBut _ _ D.TOi2.symm e
  have zlt:z<g5.objs.size:=Ad z5;show wpAny _ _ (Builtin.SmallTypes.ownedTupleHandOut (.ref z) (.ref g5.objs.size) >>=_) _ _ _;unfold Builtin.SmallTypes.ownedTupleHandOut;have z6:IsZip (g5.push {cls:= .type "tuple",data:= .seq #[x,y]}) z TI TO .ellipsis:=Aq _ z5
  refine Ac (Ac (Cv z6 (by simp) fun g7 z7 s7=>?_))
  replace z7:IsZip g7 z TI TO (rawInt g5.objs.size):=z7
  refine Cv z7 (by simp) fun g8 z8 s8=>?_
  replace z8:IsZip g8 z TI TO (rawInt g5.objs.size):=z8
  have up:∀c o,c≠z->g5.get? c=some o->g8.get? c=some o:=fun c o c1 e=>s8.extBut _ _ c1 (s7.extBut _ _ c1 (Aq _ e))
  have p8:IsPair g8 g5.objs.size x y:=s8.extBut _ _ (B0 zlt) (s7.extBut _ _ (B0 zlt) (A1 _ rfl));rw[sz]at z8 p8
  refine Ag ?_
  show Q (.done (.ret (.ref g5.objs.size))) _;rw[sz];exact hQ y g8 tk hy py z8 (up _ _ D.TOz t5) (l5.at fun o e=>up _ o D.i1z e) (Draws.at2 D2 st5 fun o e=>up _ o D.i2z e) p8 fun c o c1 c2 c3 c4 e=>up c o c1 (s5.extBut _ _ c2 (s4.extBut _ _ c4 (up3 c o c1 c2 c3 c4 e)))
 .subst hy
  refine Ac (D2.done _ _ _ st3 fun g4 e s4 he=>?_)
  obtain⟨oe,ho,hc⟩:=he;have z4:IsZip g4 z TI TO .ellipsis:=s4 _ _ D.i2z.symm z3;have ez:e≠z:=fun q=>by subst q;rw[z4]at ho;cases ho;simp at hc
  exact Cv z4 (by simp) fun g5 _ s5=>hE rfl g5 e (fun c o c1 c2 c3 c4 y=>s5.extBut _ _ c1 (s4 _ _ c4 (up3 c o c1 c2 c3 c4 y))) ⟨oe,s5.extBut _ _ ez ho,hc⟩
theorem OL {Q:Fin->Shared->Prop} (hh:A.handled=none) (D:ZipApart z TI TO i1 i2 l l) (hz:IsZip s.heap z TI TO .none) (hTI:IsPair s.heap TI (.ref i1) (.ref i2)) (h1:s.heap.IsListIter i1 l k) (hl:s.heap.IsList l xs) (hx:xs[k]? =none)
  (hE:∀h' e,(∀c o,c≠z->c≠TO->c≠i1->c≠i2->s.heap.get? c=some o->h'.get? c=some o)->(∃o,h'.get? e=some o/\o.cls=.type "StopIteration")->E (.ref e) {s with heap:=h'}):
  wpAny (model P w) A (Builtin.«zip.__next__» ⟨[.ref z],[]⟩) Q E s:=by
 show wpAny _ _ (field (.ref z) 2 >>=_) _ _ _
 refine Ac (Bf hz rfl (x:= .bool false) rfl ?_)
 show wpAny _ _ (field (.ref z) 3 >>=_) _ _ _
 refine Ac (Bf hz rfl (x:= .ref TI) rfl (Ac (C9 hTI rfl ?_)))
 show wpAny _ _ (Builtin.SmallTypes.ownedTupleIsFree (.ref z) >>=_) _ _ _;unfold Builtin.SmallTypes.ownedTupleIsFree
 refine Ac (Ac (Bf hz rfl (x:= .none) rfl (Ag ?_)))
 simp only[Bb]
 refine Ac (wpAny_rule (Ac (Bf hz rfl (x:= .ref TO) rfl (Ac (Cv hz (by simp) fun g1 z1 s1=>?_)))))
 replace z1:IsZip g1 z TI TO .ellipsis:=z1
 refine Ac ?_
 simp only[List.zipIdx_cons,List.zipIdx_nil,List.forIn_cons,List.forIn_nil]
 refine Ac (Ac (wpAny_onRaise ?_))
 show wpAny _ _ (Builtin.SmallTypes.nextOf (.ref i1) >>=_) _ _ _
 refine Ac (wpAny_nextOf_list_end hh (h1.extBut s1.extBut D.i1z) (hl.extBut s1.extBut D.l1z) hx fun g2 e s2 he=>?_)
 obtain⟨oe,ho,hc⟩:=he;have z2:IsZip g2 z TI TO .ellipsis:=s2 _ _ D.i1z.symm z1;have ez:e≠z:=fun q=>by subst q;rw[z2]at ho;cases ho;simp at hc
 exact Cv z2 (by simp) fun g3 _ s3=>hE g3 e (fun c o c1 c2 c3 c4 y=>s3.extBut _ _ c1 (s2 _ _ c3 (s1.extBut _ _ c1 y))) ⟨oe,s3.extBut _ _ ez ho,hc⟩
theorem OM {Q:Option Value->Shared->Prop} (D:ZipApart z TI TO i1 i2 l l) (hz:IsZip s.heap z TI TO .none) (hTI:IsPair s.heap TI (.ref i1) (.ref i2)) (hTO:IsPair s.heap TO a b) (h1:s.heap.IsListIter i1 l k) (hl:s.heap.IsList l xs) (hx:xs[k]? =some x) (D2:Draws P w A.in1 i2 [i2] n R St) (h2:St k s.heap)
  (hy:k<n)
  (hQ:∀y h' tk,R k y->IsZip h' z TI TO (rawInt s.heap.objs.size)->IsPair h' TO x y->h'.IsListIter i1 l (k+1)->St (k+1) h'->IsPair h' s.heap.objs.size x y->
   (∀c o,c≠z->c≠TO->c≠i1->c≠i2->s.heap.get? c=some o->h'.get? c=some o)->Q (some (.ref s.heap.objs.size)) {s with heap:=h',toks:=tk}):wpAny (model P w) A (pyNext (.ref z)) Q E s:=by
 have hT:s.TypeIs (.ref z) "zip" :=⟨_,hz,rfl⟩;unfold pyNext;exact Ac (wpAny_attempt (Dy (name:=Str.ofString "__next__") hT Dr
  (wpAny_call_entry Dr hT F.entry_zip_next
   (JJ D hz hTI hTO h1 hl hx D2 h2 (.inl hy) (fun y h' tk _ a1 a2 a3 a4 a5 a6 a7=>⟨_,rfl,Ag (hQ y h' tk a1 a2 a3 a4 a5 a6 a7)⟩) fun e=>absurd hy (by lia)) (F.args_zip_next_1 _))))
theorem ON {Q:Option Value->Shared->Prop} (hh:A.handled=none) (D:ZipApart z TI TO i1 i2 l l) (hz:IsZip s.heap z TI TO .none) (hTI:IsPair s.heap TI (.ref i1) (.ref i2)) (hTO:IsPair s.heap TO a b) (h1:s.heap.IsListIter i1 l k) (hl:s.heap.IsList l xs) (D2:Draws P w A.in1 i2 [i2] n R St) (h2:St k s.heap)
  (hend:xs[k]? =none\/k=n)
  (hQ:∀h',(∀c o,c≠z->c≠TO->c≠i1->c≠i2->s.heap.get? c=some o->h'.get? c=some o)->Q none {s with heap:=h'}):wpAny (model P w) A (pyNext (.ref z)) Q E s:=by
 have hT:s.TypeIs (.ref z) "zip" :=⟨_,hz,rfl⟩;have fin:∀(h':Heap) (e:Addr),(∀c o,c≠z->c≠TO->c≠i1->c≠i2->s.heap.get? c=some o->h'.get? c=some o)->(∃o,h'.get? e=some o/\o.cls=.type "StopIteration")->wpAny (model P w) A (do if <-isInstance (.ref e) (.type "StopIteration") then pure (none:Option Value) else throw (.ref e)) Q E {s with heap:=h'}:=fun h' e hk ⟨o,ho,hc⟩=>
  Ac (wpAny_isInstance (T:="StopIteration") (b:=true) ⟨o,ho,hc⟩ isSubtype_stop (Ag (hQ _ hk)))
 unfold pyNext
 refine Ac (wpAny_attempt (Dy (name:=Str.ofString "__next__") hT Dr
  (wpAny_call_entry Dr hT F.entry_zip_next ?_ (F.args_zip_next_1 _))))
 cases hx:xs[k]? with
 |none=>exact OL hh D hz hTI h1 hl hx fun h' e hk he=>fin h' e hk he
 |some x=>
  have hn:k=n:=by rcases hend with q|q;rw[hx]at q;cases q;exact q
  exact JJ D hz hTI hTO h1 hl hx D2 h2 (.inr hn) (fun y h' tk q=>absurd q (by lia)) fun _ h' e hk he=>fin h' e hk he
end
def ItZS (K:FG) (a:Addr) (z:Str):It:=
 ⟨fun i H=>i<z.length/\∃(xs:List V) (x:V),SqL K H a xs/\xs[i]? =some x,
  fun i H v H'=> ∃(T:Addr) (x:V) (c:Nat),v=.ref T/\H T=none/\H'=zl H T (.tup [x,.str ⟨#[c]⟩])/\(∀xs,SqL K H a xs->xs[i]? =some x)/\z.cps[i]? =some c,
  fun i H=> ∃xs,SqL K H a xs/\(xs.length<=i\/z.length<=i)⟩
def ZsSt (q TI TO i1 i2 a:Addr) (z:Str) (t:Tok) (i:Nat) (h:Heap):Prop:=
 i<=z.length/\IsZip h q TI TO .none/\IsPair h TI (.ref i1) (.ref i2)/\(∃u v,IsPair h TO u v)/\h.IsListIter i1 a i/\h.IsStrIter i2 (strIterType z) z t i
def OO {P:Program} {w:World} {K:FG} {elts:List Expr} {x1} {tp:Pos} {q TI TO i1 i2 a:Addr} {z:Str} {t:Tok} (D:ZipApart q TI TO i1 i2 a a):
  Turn P w K (.Tuple elts x1 tp) (ItZS K a z) [q,TI,TO,i1,i2] q (ZsSt q TI TO i1 i2 a z t) where
 mem:=by simp
 obj:=fun i h st c hc=>by
  obtain⟨_,hz,hTI,⟨u,v,hTO⟩,⟨o1,e1,_,d1⟩,⟨o2,e2,_,d2⟩⟩:=st;simp only[Ae,A7,Az]at hc
  rcases hc with rfl|rfl|rfl|rfl|rfl
  .exact⟨_,hz,fun v e=>by cases e⟩
  .exact⟨_,hTI,fun v e=>by cases e⟩
  .exact⟨_,hTO,fun v e=>by cases e⟩
  .exact⟨_,e1,fun v e=>by rw[d1]at e;cases e⟩
  .exact⟨_,e2,fun v e=>by rw[d2]at e;cases e⟩
 keep:=fun i h h' st k=>by
  obtain⟨hi,hz,hTI,⟨u,v,hTO⟩,h1,⟨o2,e2,r2⟩⟩:=st;exact⟨hi,k q (by simp) _ hz,k TI (by simp) _ hTI,⟨u,v,k TO (by simp) _ hTO⟩,h1.at fun o e=>k i1 (by simp) o e,⟨o2,k i2 (by simp) o2 e2,r2⟩⟩
 item:=fun X hp hw hK hc i pins s σ H E I fp st go=>by
  subst hp hw hK;obtain⟨_,hz,hTI,⟨u,v,hTO⟩,h1,h2⟩:=st;obtain⟨hi,xs,x,qa,ex⟩:=go;obtain⟨vs,rv,pv,_⟩:=I.list qa;obtain⟨vx,evx,rvx⟩:=rv.get ex
  refine OM D hz hTI hTO h1 pv.isList (x:=vx) (by simpa using evx) (Ga (A:=X.A.in1) (I.ok.hd hc) i2 z t) h2 hi fun y h' tk ⟨c,ut,hcx,ey⟩ a1 a2 a3 a4 a5 hk=>?_
  subst ey
  refine⟨_,rfl,wpAny_letOwnedTupleGo_zip a1 fun h'' b1 b2=>?_⟩
  have nz:s.heap.objs.size≠q:=B0 (Ad hz);have k2:∀c o,c∉[q,TO,i1,i2]->s.heap.get? c=some o->h''.get? c=some o:=fun c o hcn e=>by
   simp only[Ae,A7,Az,not_or]at hcn;exact b2.extBut _ _ hcn.1 (hk c o hcn.1 hcn.2.1 hcn.2.2.1 hcn.2.2.2 e)
  have I':Inv X pins σ (zl H s.heap.objs.size (.tup [x,.str ⟨#[c]⟩])) {s with heap:=h'',toks:=tk}:=
   I.turnLay (ch:=[q,TO,i1,i2]) k2 (fun c hcn=>fp c (by simp only[Ae,A7,Az]at hcn ⊢;rcases hcn with h|h|h|h<;>simp[h])) (Af _)
    ⟨by show 2<=sizeLine;decide,[vx,.str ⟨#[c]⟩ ut],.cons rvx (.cons ⟨_,rfl⟩ .nil),⟨_,b2.extBut _ _ nz a5,rfl,_,rfl⟩⟩
  have nf:H s.heap.objs.size=none:=I.hok.fresh (Af _);obtain⟨o2,e2,r2⟩:=a4
  refine⟨.ref s.heap.objs.size,_,I',rfl,⟨_,x,c,rfl,nf,rfl,fun xs' y=>?_,hcx⟩,⟨hi,b1,b2.extBut _ _ D.TIz (hk _ _ D.TIz D.TITO D.TIi1 D.TIi2 hTI),⟨_,_,b2.extBut _ _ D.TOz a2⟩,a3.extBut b2.extBut D.i1z,⟨o2,b2.extBut _ _ D.i2z e2,r2⟩⟩,fun c hcn=>?_⟩
  .rw[I.list_inj y qa];exact ex
  .have hc1:=fp c hcn
   have:c≠s.heap.objs.size:=by
    have hlt:c<s.heap.objs.size:=by
     simp only[Ae,A7,Az]at hcn
     rcases hcn with rfl|rfl|rfl|rfl|rfl
     .exact Ad hz
     .exact Ad hTI
     .exact Ad hTO
     .obtain⟨_,e,_⟩:=h1;exact Ad e
     .obtain⟨_,e⟩:=JH h2;exact Ad e
    exact Ap hlt
   rw[zI this];exact hc1.1
 done:=fun X hp hw hK hc i pins s σ H E I fp st stop=>by
  subst hp hw hK;obtain⟨hi,hz,hTI,⟨u,v,hTO⟩,h1,h2⟩:=st;obtain⟨xs,qa,hend⟩:=stop;obtain⟨vs,rv,pv,_⟩:=I.list qa;have l1:=rv.length
  refine ON (I.ok.hd hc) D hz hTI hTO h1 pv.isList (Ga (A:=X.A.in1) (I.ok.hd hc) i2 z t) h2 ?_ fun h' hk=>⟨rfl,?_⟩
  .rcases hend with h|h
   .exact .inl (by rw[Array.getElem?_eq_none_iff,Ak];lia)
   .exact .inr (Nat.le_antisymm hi h)
  .refine I.turnedL (ch:=[q,TO,i1,i2]) (t':=s.toks) (fun c o hcn e=>?_) (fun c hcn=>fp c (by simp only[Ae,A7,Az]at hcn ⊢;rcases hcn with h|h|h|h<;>simp[h]))
   simp only[Ae,A7,Az,not_or]at hcn;exact hk c o hcn.1 hcn.2.1 hcn.2.2.1 hcn.2.2.2 e
 self:=fun A i s Q E st h=>wpAny_pyIter_zip st.2.1 h
abbrev Gb (h:Heap) (l:Addr):Heap:=h.push {cls:= .type "list_iterator",data:= .fields #[.ref l,.int 0 0]}
abbrev Gc (h:Heap) (l:Addr) (x:Str) (t:Tok):Heap:=(Gb h l).push {cls:= .type (strIterType x),data:= .fields #[.str x t,.int 0 0]}
abbrev Gd (h:Heap) (l:Addr) (x:Str) (t:Tok):Heap:=(Gc h l x t).push {cls:= .type "tuple",data:= .seq #[.ref h.objs.size,.ref (Gb h l).objs.size]}
abbrev Ge (h:Heap) (l:Addr) (x:Str) (t:Tok):Heap:=(Gd h l x t).push {cls:= .type "tuple",data:= .seq #[.none,.none]}
abbrev Ee (h:Heap) (l:Addr) (x:Str) (t:Tok):Heap:=(Ge h l x t).push {cls:= .type "zip",data:= .fields #[.none,.bool false,.bool false,.ref (Gc h l x t).objs.size,.ref (Gd h l x t).objs.size]}
set_option maxHeartbeats 2000000 in
def OP (l:Addr) (xs:Array Value) (x:Str) (t:Tok):Meets (Builtin.«zip.__new__» ⟨[.type "zip",.ref l,.str x t],[]⟩) (fun _ R s=>s.heap.IsList l xs/\R (.ok (.ret (.ref (Ge s.heap l x t).objs.size))) {s with heap:=Ee s.heap l x t}):=
 .of_wp fun prog w A R s h=>by
  obtain⟨hp,g,d,tk,os⟩:=s;obtain⟨hl1,h⟩:=h;have hsub:=PySem.sub_zip;have hL1:Heap.IsList (Shared.heap ⟨hp,g,d,tk,os⟩) l xs:=hl1
  wp_walk using Dh hL1,wpAny_pyIter_strU
  exact⟨_,rfl,h⟩
def OQ {P:Program} {w:World} {A:Around} {E:VP} {s:Shared} {l:Addr} {xs:Array Value} {x:Str} {t:Tok} {Q:VP} (hl:s.heap.IsList l xs)
  (h:∀h',IsZip h' (s.heap.objs.size+4) (s.heap.objs.size+2) (s.heap.objs.size+3) .none->IsPair h' (s.heap.objs.size+2) (.ref s.heap.objs.size) (.ref (s.heap.objs.size+1))->
   IsPair h' (s.heap.objs.size+3) .none .none->h'.IsListIter s.heap.objs.size l 0->h'.IsStrIter (s.heap.objs.size+1) (strIterType x) x t 0->
   (∀c o,s.heap.get? c=some o->h'.get? c=some o)->Q (.ref (s.heap.objs.size+4)) {s with heap:=h'}):wpAny (model P w) A (call (.type "zip") [.ref l,.str x t]) Q E s:=by
 refine callType_new F.called_zip (by decide) (F.typeCall_zip_2 _ _) (F.newCall_zip_2 _ _) (fun obj=>F.args_object_init_3 obj _ _) F.entry_zip_new (OP l xs x t) ⟨hl,?_⟩
 have n1:(Gb s.heap l).objs.size=s.heap.objs.size+1:=Ds ..;have n2:(Gc s.heap l x t).objs.size=s.heap.objs.size+2:=by rw[Ds,n1]
 have n3:(Gd s.heap l x t).objs.size=s.heap.objs.size+3:=by rw[Ds,n2]
 have n4:(Ge s.heap l x t).objs.size=s.heap.objs.size+4:=by rw[Ds,n3]
 have up {h:Heap} {o:Obj} {c:Addr} {u:Obj} (e:h.get? c=some u):(h.push o).get? c=some u:=Aq _ e;have g5:(Ee s.heap l x t).get? (Ge s.heap l x t).objs.size=some _:=A1 _ rfl;have g4:(Ee s.heap l x t).get? (Gd s.heap l x t).objs.size=some _:=up (A1 _ rfl);have g3:(Ee s.heap l x t).get? (Gc s.heap l x t).objs.size=some _:=up (up (A1 _ rfl));have g2:(Ee s.heap l x t).get? (Gb s.heap l).objs.size=some _:=up (up (up (A1 _ rfl)));have g1:(Ee s.heap l x t).get? s.heap.objs.size=some _:=up (up (up (up (A1 _ rfl))));show _/\_;rw[n2,n3,n4]at g5;rw[n1,n2]at g3;rw[n3]at g4;rw[n1]at g2;rw[n4];exact⟨⟨_,g5,rfl⟩,h _ g5 g3 g4 ⟨_,g1,rfl,rfl⟩ ⟨_,g2,rfl,rfl⟩ fun c o e=>up (up (up (up (up e))))⟩
def OR (K:FG) (ta:TA):TI:=fun σ H R=>ta σ H fun vs H1=> ∃(a:Addr) (xs:List V) (z:Str),vs=[.ref a,.str z]/\SqL K H1 a xs/\R (ItZS K a z) H1
def OS {X:Cx} {elts:List Expr} {x1} {tp:Pos} {e1 e2:Expr} {ta:TA} {p pos:Pos} (hg:Gl X "zip") (hm:X.mg "zip" =none) (ha:PA X [e1,e2] ta) (hs:starEach [e1,e2] X.env=[(false,eval e1 X.env),(false,eval e2 X.env)]:=by rfl) (hs2:starEach [e2] X.env=[(false,eval e2 X.env)]:=by rfl):
  PI X (.Tuple elts x1 tp) (.Call (.Name "zip" p) [e1,e2] [] pos) (OR X.K ta):=by
 intro pins s σ H R I h
 refine Call_ (CG I hg hm (by rfl) (C0 (zp (ha pos pins s σ H _ I h) fun us s1 ⟨vs,H1,I1,r1,q1⟩=>?_) (by rw[hs,hs2]) (by rw[hs2];rfl)))
 obtain⟨a,xs,z,rfl,qa,q⟩:=q1;obtain⟨u,v,rfl,ru,rv⟩:=EE r1;cases ru;obtain⟨t,rfl⟩:=rv;obtain⟨vs,rva,pa,_⟩:=I1.list qa;have la:a<s1.heap.objs.size:=by obtain⟨o,n,e,_⟩:=pa;exact Ad e
 refine OQ pa.isList fun h' hz hTI hTO hi1 hi2 hk=>?_
 refine wpAny_pyIter_zip hz ?_
 have I2:Inv X pins σ H1 {s1 with heap:=h'}:=I1.kept (t':=s1.toks) hk
 refine⟨_,[s1.heap.objs.size+4,s1.heap.objs.size+2,s1.heap.objs.size+3,s1.heap.objs.size,s1.heap.objs.size+1],_,_,H1,rfl,I2,OO (t:=t) (zipApart_new la la),⟨Bk _,hz,hTI,⟨_,_,hTO⟩,hi1,hi2⟩,fun c hc=>?_,q⟩
 have hge:s1.heap.objs.size<=c:=by
  simp only[Ae,A7,Az]at hc
  rcases hc with rfl|rfl|rfl|rfl|rfl
  all_goals first|exact Af _|exact Nat.le_add_right _ _
 exact I1.fpOk hge (I1.hok.fresh hge)
end L2
namespace L3
open PySem PySem.Spec PyProof.Rows L2
section
variable {X:Cx} {κ:Kx} {E:XK} {a b:Expr} {np pos:Pos}
def Fb (a:A3):I3:=fun s h=>(a s h).bind fun fs h1=>match fs with
 | [.x x,.x (.str z)]=>match qr h1 x with
  |some (xs,ok)=>.ok ⟨[x],(xs.zip (qp z)).map fun q=>.tup [q.1,q.2],ok⟩ h1
  |none=>.no
 |_=>.no
def OT {elts:List Expr} {x1} {tp:Pos} {t:A3} (hK:X.K=κ.K) (hg:Gl X "zip") (hm:X.mg "zip" =none) (ha:PA X [a,b] (zN κ E t)) (hs:starEach [a,b] X.env=[(false,eval a X.env),(false,eval b X.env)]:=by rfl) (hs2:starEach [b] X.env=[(false,eval b X.env)]:=by rfl):PI X (.Tuple elts x1 tp) (.Call (.Name "zip" np) [a,b] [] pos) (yo κ E (Fb t)):=PIw (OS hg hm ha hs hs2) fun σ H R ⟨F,rel,o⟩=>
 (yh (K:=kA κ) km_I rel o).mono fun vs H1 ⟨β1,h1,fs,e1,⟨r1,rf⟩,o1⟩=>by
  match fs,rf,o1 with
  | [.x x,.x (.str z)],rf,o1=>
   obtain⟨v,w,rfl,rv,rw'⟩:=p2 rf;have rv:Rep κ β1 F.O H1 x v:=rv;cases (show Rep κ β1 F.O H1 (.str z) w from rw')
   cases q:qr h1 x with
   |none=>simp only[q]at o1;exact o1.elim
   |some w=>
    obtain⟨xs,ok⟩:=w;simp only[q]at o1;obtain⟨c,us,rfl,sq,rs⟩:=FR (F:=F.to β1 h1) q r1 rv (ES q).1;rw[hK]
    refine⟨c,us,z,rfl,sq,o1 β1 _ H1 Ext.refl ⟨r1,[.ref c],.cons rv .nil,fun F' σ' H' rel' r' hk i=>?_⟩⟩
    cases r' with
    |cons r'' _=>
     obtain⟨c',ys',ec,sq',rs'⟩:=FR q rel' r'' hk;cases ec;have hl:=rs'.length;have sl:(qp z).length=z.length:=by unfold qp;rw[Ah,Bz];rfl
     have el:((xs.zip (qp z)).map fun q=>V3.tup [q.1,q.2]).length=min xs.length z.length:=by rw[Ah,List.length_zip,sl]
     refine⟨fun hi=>?_,fun hi=>⟨ys',sq',by rw[el]at hi;lia⟩⟩
     rw[el]at hi;have h1:i<xs.length:=by lia
     have h2:i<z.length:=by lia
     obtain⟨y,hy,ry⟩:=rs'.get (yq h1)
     refine⟨⟨h2,ys',y,sq',hy⟩,fun x' H'' yl=>?_⟩
     obtain⟨T,v,d,rfl,hT,rfl,hv,hd⟩:=yl;have e:=hv ys' sq';rw[hy]at e;cases e;obtain⟨q1,q2,q3⟩:=Rel.tup2 (y:= .str ⟨#[d]⟩) (w:= .str ⟨#[d]⟩) rel' hT ry (.str _)
     refine⟨.tup [xs[i],.str ⟨#[d]⟩],?_,q1,q2,q3⟩
     have hg:(qp z)[i]? =some (.str ⟨#[d]⟩):=by
      unfold qp;rw[A2,C7,hd];rfl
     rw[A2,(List.getElem?_zip_eq_some (z:=(xs[i],V3.str ⟨#[d]⟩))).mpr ⟨yq h1,hg⟩]
     rfl
end
end L3
namespace My
open PySem L2 L3
def jc:List (Str×Str×Bool):=[(("NoLine" :Str),("YardError" :Str),true),(("NoLine" :Str),("NoLine" :Str),true),(("NoLine" :Str),("NoSpans" :Str),false),(("NoLine" :Str),("NoName" :Str),false),(("NoLine" :Str),("NoNumber" :Str),false)]
def Hi:D3:=(zw (qC (aCons (pV 3) aNil)) (gN 8) (sSeq (sSet 9 (eOp zf (pE (eOp zB (pV 0) (pE (eOp zf (kJ 64) (pE (eOp yt (kJ 29) (pV 8))))))) (pE (eOp yt (pV 6) (pE (eB bInt (aCons (pE (eOp zD (pV 8) (pV 4))) aNil))))))) (sIf (tE (eOp zD (pV 8) (kJ 0))) (sSet 7 (eOp zf (pV 7) (pE (eOp zJ (pV 2) (pE (eOp zj (pV 9) (kJ 26))))))) (sSet 7 (eOp zf (pV 7) (pE (eOp zJ (pE (eOp zf (pV 2) (pE (eC (.str ("0123456789" :Str)))))) (pE (eOp zj (pV 9) (kJ 36))))))))))
def Hj:D3:=(zw (qC (aCons (pV 1) aNil)) (gN 6) (sSeq (sSet 7 (eC (.str ("" :Str)))) (sSeq (sFz 3) (sSeq Hi (sSeq (sFz 7) (qI qk (pV 5) (aCons (pV 7) aNil)))))))
def Hk:D3:=(sSeq (sSet 2 (eC (.str ("abcdefghijklmnopqrstuvwxyz" :Str)))) (sSeq (sSet 3 (eOp zf (kJ 1) (pE (eOp zj (pV 0) (kJ 8))))) (sSeq (sSet 4 (eOp zj (pE (eOp zB (pV 0) (kJ 8))) (pV 3))) (sSeq (sSet 5 (eLst aNil)) (sSeq Hj (sRetS 5))))))
def Fc:F3:=fun3 2 10 Hk
def OU:zC Fc 2:=zM
def Fd:D3:=(sSeq (sIf (tE (eOp oLt (pV 1) (pE (eB bLen (aCons (pV 0) aNil))))) (sRet (eOp zJ (pV 0) (pV 1))) sSkip) (sSeq (sSet 2 (eOp zf (pE (eOp yt (kJ 7919) (pV 1))) (kJ 101))) (sSeq (sIf (tE (eOp jr (pE (eB bLen (aCons (pV 0) aNil))) (kJ 0))) (sSet 2 (eOp zf (pV 2) (pE (eOp yt (pE (eOp zj (pE (eOp zJ (pV 0) (pE (eOp zj (pE (eOp yt (kJ 7) (pV 1))) (pE (eB bLen (aCons (pV 0) aNil))))))) (kJ 1000003))) (pE (eOp zf (pV 1) (kJ 3))))))) sSkip) (sRet (eOp zj (pE (eOp yt (pV 2) (pV 2))) (kJ 1000003))))))
def yJ:F3:=fun3 2 3 Fd
def Ef:zC yJ 2:=zM
def Fe:E3:=(ji 1 [] (iL (pV 0)) (gN 0) tTru (AD (pE (eC (.str (" " :Str)))) (aCons (pV 0) aNil)))
def Eg:D3:=(sSeq (sIf (tE (eOp zD (pV 0) (pE (eLst aNil)))) (sRet (eC (.str ("-" :Str)))) sSkip) (sRet (AD (pE (eOp zJ (pE (eLst (aCons (pE (eC (.str (" " :Str)))) (aCons (pE (eC (.str ("; " :Str)))) (aCons (pE (eC (.str ("; " :Str)))) aNil))))) (pV 1))) (aCons (pE Fe) aNil))))
def AY:F3:=fun3 2 2 Eg
def OV:zC AY 2:=zM
def Hl:D3:=(sSeq (sSet 3 (eOp zf (pE (eB Ec (aCons (pE (eC (.str ("0123456789abzA -;:+_." :Str)))) aNil))) (pE (eLst (aCons (pE (eC (.str ("\n" :Str)))) (aCons (pE (eC (.str ("\t" :Str)))) aNil)))))) (sSeq (sSet 3 (eOp zJ (pV 3) (pE (eOp zj (pV 2) (pE (eB bLen (aCons (pV 3) aNil))))))) (sSeq (sSet 4 (eOp zj (pE (eOp zB (pV 2) (kJ 23))) (pE (eOp zf (pE (eB bLen (aCons (pV 0) aNil))) (kJ 1))))) (sSeq (sSet 5 (eOp zj (pV 1) (kJ 9))) (sSeq (sIf (tE (eOp zD (pV 5) (kJ 0))) (sRet (eOp zf (pE (eOp zf (pE (zV (pV 0) yb (zQ (pV 4)))) (pV 3))) (pE (zV (pV 0) (zQ (pV 4)) yb)))) sSkip) (sSeq (sIf (tE (eOp zD (pV 5) (kJ 1))) (sRet (eOp zf (pE (zV (pV 0) yb (zQ (pV 4)))) (pE (zV (pV 0) (zQ (pE (eOp zf (pV 4) (kJ 1)))) yb)))) sSkip) (sSeq (sIf (tE (eOp zD (pV 5) (kJ 2))) (sRet (eOp zf (pE (eOp zf (pE (zV (pV 0) yb (zQ (pV 4)))) (pV 3))) (pE (zV (pV 0) (zQ (pE (eOp zf (pV 4) (kJ 1)))) yb)))) sSkip) (sSeq (sSet 6 (qU (pV 0) (aCons (pE (eC (.str (" " :Str)))) aNil))) (sSeq (sSet 7 (eOp zj (pE (eOp zB (pV 2) (kJ 23))) (pE (eB bLen (aCons (pV 6) aNil))))) (sSeq (sIf (tE (eOp zD (pV 5) (kJ 3))) (sSet 6 (eOp zf (pE (eOp zf (pE (zV (pV 6) yb (zQ (pV 7)))) (pE (eLst (aCons (pE (eOp zJ (pE (eLst (aCons (pE (eC (.str ("-" :Str)))) (aCons (pE (eC (.str ("0" :Str)))) (aCons (pE (eC (.str ("a1" :Str)))) (aCons (pE (eC (.str ("00" :Str)))) (aCons (pE (eC (.str ("7-9" :Str)))) (aCons (pE (eC (.str ("-1" :Str)))) aNil)))))))) (pE (eOp zj (pV 2) (kJ 6))))) aNil))))) (pE (zV (pV 6) (zQ (pV 7)) yb)))) sSkip) (sSeq (sIf (tE (eOp zD (pV 5) (kJ 4))) (sSet 6 (eOp zf (pE (eOp zf (pE (zV (pV 6) yb (zQ (pV 7)))) (pE (zV (pV 6) (zQ (pV 7)) (zQ (pE (eOp zf (pV 7) (kJ 1)))))))) (pE (zV (pV 6) (zQ (pV 7)) yb)))) sSkip) (sSeq (sIf (tE (eOp zD (pV 5) (kJ 5))) (sSet 6 (eOp zf (pE (zV (pV 6) yb (zQ (pV 7)))) (pE (zV (pV 6) (zQ (pE (eOp zf (pV 7) (kJ 1)))) yb)))) sSkip) (sSeq (sIf (tE (eOp zD (pV 5) (kJ 6))) (qQ (pV 6) (pV 7) (eOp zf (pE (eB yP (aCons (pE (eOp oSub (pE (eOp yH (kJ 10) (kJ 11))) (pE (eOp zj (pV 2) (kJ 2))))) aNil))) (pE (eOp zJ (pE (eLst (aCons (pE (eC (.str (";" :Str)))) (aCons (pE (eC (.str ("" :Str)))) aNil)))) (pE (eOp zj (pE (eOp zB (pV 2) (kJ 2))) (kJ 2))))))) sSkip) (sSeq (sIf (tE (eOp zD (pV 5) (kJ 7))) (sSeq (sSet 8 (zV (pE (eOp zJ (pV 6) (pV 7))) (zQ (pE (eNeg (kJ 1)))) yb)) (qQ (pV 6) (pV 7) (eOp zf (pE (eOp zJ (pE (eLst (aCons (pE (eC (.str ("-1" :Str)))) (aCons (pE (eC (.str ("-" :Str)))) (aCons (pE (eC (.str ("0" :Str)))) (aCons (pE (eC (.str ("7-9" :Str)))) (aCons (pE (eC (.str ("a1" :Str)))) (aCons (pE (eC (.str ("00" :Str)))) aNil)))))))) (pE (eOp zj (pV 2) (kJ 6))))) (pE (eOp Ed (pV 8) (pE (eB bInt (aCons (pE (eOp zD (pV 8) (pE (eC (.str (";" :Str)))))) aNil)))))))) sSkip) (sSeq (sIf (tAnd3 (tE (eOp zD (pV 5) (kJ 8))) (tE (eOp jr (pE (eOp zj (pE (eOp zB (pV 1) (kJ 9))) (kJ 3))) (kJ 0)))) (sSeq (sSet 4 (eOp zJ (pE (eLst (aCons (pV 4) (aCons (pE (eB bLen (aCons (pV 0) aNil))) aNil)))) (pE (eOp zj (pE (eOp zB (pV 1) (kJ 27))) (kJ 2))))) (sRet (eOp zf (pE (eOp zf (pE (zV (pV 0) yb (zQ (pV 4)))) (pE (eOp zJ (pE (eLst (aCons (pE (eC (.str ("; " :Str)))) (aCons (pE (eC (.str (";" :Str)))) (aCons (pE (eC (.str (" " :Str)))) (aCons (pE (eC (.str ("; -" :Str)))) (aCons (pE (eC (.str ("-" :Str)))) (aCons (pE (eC (.str ("; ; " :Str)))) aNil)))))))) (pE (eOp zj (pV 2) (kJ 6))))))) (pE (zV (pV 0) (zQ (pV 4)) yb))))) sSkip) (sSeq (sFz 6) (sRet (AD (pE (eC (.str (" " :Str)))) (aCons (pV 6) aNil)))))))))))))))))))
def Eh:F3:=fun3 3 9 Hl
def OW:zC Eh 3:=zM
def Hn:D3:=(zw (iS (pV 0)) (gN 1) (sIf (tE (eOp (yy true) (pV 1) (pE (eC (.str ("0123456789" :Str)))))) (sRet (eC (.bl false))) sSkip))
def Ff:D3:=(sSeq (sIf (tOr3 (tE (eOp oLt (pE (eB bLen (aCons (pV 0) aNil))) (kJ 1))) (tE (eOp jr (pE (eB bLen (aCons (pV 0) aNil))) (kJ 11)))) (sRet (eC (.bl false))) sSkip) (sSeq Hn (sRet (eOr (eOp zD (pV 0) (pE (eC (.str ("0" :Str))))) (eOp qf (pE (eOp zJ (pV 0) (kJ 0))) (pE (eC (.str ("0" :Str)))))))))
def qX:F3:=fun3 1 2 Ff
def Fg:zC qX 1:=zM
def Gf:E3:=(ji 1 [] (iS (pV 0)) (gN 0) tTru (eOp (yy false) (pV 0) (pE (eC (.str ("0123456789" :Str))))))
def CV:D3:=(sSeq (sIf (tOr3 (tNot3 (tE (eChain oLe oLe (kJ 1) (pE (eB bLen (aCons (pV 0) aNil))) (kJ 11)))) (tNot3 (tE (eB (bAll fun bs=>bs.all id) (aCons (pE Gf) aNil))))) (sRet (eC (.bl false))) sSkip) (sRet (eOr (eOp qf (pE (eOp zJ (pV 0) (kJ 0))) (pE (eC (.str ("0" :Str))))) (eOp zD (pV 0) (pE (eC (.str ("0" :Str))))))))
def AZ:F3:=fun3 1 1 CV
def OX:zC AZ 1:=zM
def Gg:D3:=(sSeq (sIf (tNot3 (tE (eCall AZ (aCons (pV 0) aNil)))) (jj ("NoLine" :Str) (aCons (pE (eC (.str ("a word is no figures" :Str)))) aNil)) sSkip) (sRet (eB qF (aCons (pV 0) aNil))))
def qt:F3:=fun3 1 1 Gg
def BB:zC qt 1:=zM
def Gh:D3:=(sSeq (sSet 1 (eC .non)) (sSeq (sSet 2 (eC (.bl false))) (sSeq (AW (qv jc) (some 1) qt (aCons (pV 0) aNil) [(("NoLine" :Str),none,(sSet 2 (eC (.bl true))))]) (sSeq (sIf (tE (eCall qX (aCons (pV 0) aNil))) (sRet (eAnd (eNot (eV 2)) (eOp zD (pV 1) (pE (eB qF (aCons (pV 0) aNil)))))) sSkip) (sRetS 2)))))
def BC:F3:=fun3 1 3 Gh
def Ho:zC BC 1:=zM
def Hq:D3:=(zw (qC (aCons (pE (eOp zj (pE (eOp zB (pV 0) (kJ 3))) (kJ 4))) aNil)) (gN 5) (sSeq (sSet 6 (eOp zf (pE (eOp zB (pV 0) (pE (eOp zf (kJ 5) (pE (eOp yt (kJ 2) (pV 5))))))) (pE (eOp yt (kJ 7) (pV 5))))) (sSeq (sSet 7 (eOp zJ (pV 2) (pE (eOp zj (pV 6) (pE (eB bLen (aCons (pV 2) aNil))))))) (sIf (tE (eOp zD (pV 1) (kJ 0))) (sSeq (qI qk (pV 3) (aCons (pE (eLst (aCons (pE (eOp zf (pE (eOp zf (pE (eB yP (aCons (pV 4) aNil))) (pE (eC (.str ("-" :Str)))))) (pE (eB yP (aCons (pE (eOp zf (pV 4) (pE (eOp zj (pV 6) (kJ 4))))) aNil))))) aNil))) aNil)) (sSet 4 (eOp zf (pE (eOp zf (pV 4) (pE (eOp zj (pV 6) (kJ 4))))) (pE (eOp zJ (pE (eLst (aCons (kJ 2) (aCons (kJ 3) (aCons (kJ 4) (aCons (kJ 2) (aCons (kJ 1) (aCons (kJ 0) aNil)))))))) (pE (eOp zj (pE (eOp zB (pV 6) (kJ 4))) (kJ 6)))))))) (sIf (tE (eOp zD (pV 1) (kJ 1))) (qI qk (pV 3) (aCons (pE (eLst (aCons (pE (eB yP (aCons (pE (eOp zj (pV 6) (pE (eOp yH (kJ 10) (kJ 11))))) aNil))) (aCons (pE (eB yP (aCons (pE (eOp zj (pE (eOp zB (pV 6) (kJ 7))) (kJ 16))) aNil))) (aCons (pV 7) aNil))))) aNil)) (sSeq (sSet 8 (eOp zJ (pE (eLst (aCons (pE (eB yP (aCons (pE (eOp zj (pE (eOp zB (pV 6) (kJ 5))) (pE (eOp yH (kJ 10) (kJ 6))))) aNil))) (aCons (pE (eC (.str ("-1" :Str)))) aNil)))) (pE (eOp zj (pE (eOp zB (pV 6) (kJ 11))) (kJ 2))))) (qI qk (pV 3) (aCons (pE (eLst (aCons (pV 7) (aCons (pE (eB yP (aCons (pE (eOp zj (pV 6) (pE (eOp yH (kJ 10) (kJ 9))))) aNil))) (aCons (pV 8) (aCons (pE (eB yP (aCons (pE (eOp zf (kJ 1) (pE (eOp zj (pV 6) (kJ 60))))) aNil))) (aCons (pE (eB yP (aCons (pE (eOp zf (kJ 1) (pE (eOp zj (pV 6) (kJ 16))))) aNil))) aNil))))))) aNil))))))))
def Hr:D3:=(sSeq (sSet 3 (eLst aNil)) (sSeq (sSet 4 (eOp zj (pV 0) (pE (eOp yH (kJ 10) (kJ 6))))) (sSeq Hq (sRetS 3))))
def CW:F3:=fun3 3 9 Hr
def OY:zC CW 3:=zM
def Gi:E3:=(ji 1 [] (iS (pV 0)) (gN 0) tTru (eOp (yy false) (pV 0) (pE (eC (.str ("abcdefghijklmnopqrstuvwxyz0123456789" :Str))))))
def Ei:D3:=(sSeq (sIf (tOr3 (tNot3 (tE (eB bIsT (aCons (pV 0) (aCons (pE (eC (.ty "str"))) aNil))))) (tNot3 (tE (eChain oLe oLe (kJ 1) (pE (eB bLen (aCons (pV 0) aNil))) (kJ 8))))) (sRet (eC (.bl false))) sSkip) (sRet (eAnd (eOp (yy false) (pE (eOp zJ (pV 0) (kJ 0))) (pE (eC (.str ("abcdefghijklmnopqrstuvwxyz" :Str))))) (eB (bAll fun bs=>bs.all id) (aCons (pE Gi) aNil)))))
def BS:F3:=fun3 1 1 Ei
def OZ:zC BS 1:=zM
def Gj:D3:=(sSeq (sIf (tNot3 (tE (eCall BS (aCons (pV 0) aNil)))) (jj ("NoLine" :Str) (aCons (pE (eC (.str ("a word is no name" :Str)))) aNil)) sSkip) (sRetS 0))
def BD:F3:=fun3 1 1 Gj
def JK:zC BD 1:=zM
def Fh:D3:=(sRet (eIf (tE (eOp zD (pV 0) (pE (eC (.str ("-1" :Str)))))) (eNeg (kJ 1)) (eCall qt (aCons (pV 0) aNil))))
def CY:F3:=fun3 1 1 Fh
def Pa:zC CY 1:=zM
def BU:D3:=(sSeq (sAsg (gL (gsCons (gN 1) (gsCons (gN 2) (gsCons (gN 3) (gsCons (gN 4) (gsCons (gN 5) gsNil)))))) (eV 0)) (sRet (eTup (aCons (pE (eCall BD (aCons (pV 1) aNil))) (aCons (pE (eCall qt (aCons (pV 2) aNil))) (aCons (pE (eCall CY (aCons (pV 3) aNil))) (aCons (pE (eCall qt (aCons (pV 4) aNil))) (aCons (pE (eCall qt (aCons (pV 5) aNil))) aNil))))))))
def AF:F3:=fun3 1 6 BU
def Pb:zC AF 1:=zM
def Gk:E3:=(ji 1 [] (iL (pE (qU (pV 0) (aCons (pE (eC (.str ("; " :Str)))) aNil)))) (gN 0) tTru (qU (pV 0) (aCons (pE (eC (.str (" " :Str)))) aNil)))
def Gm:E3:=(ji 1 [1] (iL (pV 2)) (gN 0) tTru (eOp qf (pE (eB bLen (aCons (pV 0) aNil))) (pV 1)))
def Fi:D3:=(sSeq (sIf (tE (eOp zD (pV 0) (pE (eC (.str ("-" :Str)))))) (sRet (eLst aNil)) sSkip) (sSeq (sSet 2 Gk) (sSeq (sFz 2) (sSeq (sIf (tE (eB (bAll fun bs=>bs.any id) (aCons (pE Gm) aNil))) (jj ("NoLine" :Str) (aCons (pE (eC (.str ("a row has words more or fewer" :Str)))) aNil)) sSkip) (sRetS 2)))))
def qT:F3:=fun3 2 3 Fi
def JL:zC qT 2:=zM
def CZ:E3:=(AE 1 [] (iL (pE (eCall qT (aCons (pV 0) (aCons (kJ 5) aNil))))) (gN 0) tTru (eCall AF (aCons (pV 0) aNil)))
def Fj:D3:=(sRet CZ)
def D7:F3:=fun3 1 1 Fj
def Pc:zC D7 1:=zM
def Fl:D3:=(sSeq (sAsg (gT (gsCons (gN 1) (gsCons (gN 2) (gsCons (gN 3) gsNil)))) (EY (pV 0) (aCons (pE (eC (.str ("-" :Str)))) aNil))) (sRet (eTup (aCons (pE (eCall qt (aCons (pV 1) aNil))) (aCons (pE (eCall qt (aCons (pV 3) aNil))) aNil)))))
def D8:F3:=fun3 1 4 Fl
def Pd:zC D8 1:=zM
def Gn:E3:=(AE 1 [] (iL (pE (qU (pV 0) (aCons (pE (eC (.str (" " :Str)))) aNil)))) (gN 0) tTru (eCall D8 (aCons (pV 0) aNil)))
def Hs:D3:=(zw (iL (pV 1)) (gT (gsCons (gN 3) (gsCons (gN 4) gsNil))) (sSeq (sIf (tOr3 (tE (eOp jr (pV 3) (pV 4))) (tE (eOp oLt (pV 3) (pE (eOp zf (pV 2) (kJ 2)))))) (jj ("NoLine" :Str) (aCons (pE (eC (.str ("spans are rising and part from one another" :Str)))) aNil)) sSkip) (sSet 2 (eV 4))))
def Ej:D3:=(sSeq (sIf (tE (eOp zD (pV 0) (pE (eC (.str ("-" :Str)))))) (sRet (eGl (eLst aNil))) sSkip) (sSeq (sSet 1 (eGl Gn)) (sSeq (sSet 2 (eNeg (kJ 2))) (sSeq Hs (sRetS 1)))))
def BV:F3:=fun3 1 5 Ej
def Pe:zC BV 1:=zM
def D9:E3:=(AE 3 [] (iL (pE (eCall qT (aCons (pV 0) (aCons (kJ 3) aNil))))) (gL (gsCons (gN 0) (gsCons (gN 1) (gsCons (gN 2) gsNil)))) tTru (eTup (aCons (pE (eCall qt (aCons (pV 0) aNil))) (aCons (pE (eCall qt (aCons (pV 1) aNil))) (aCons (pE (eCall BD (aCons (pV 2) aNil))) aNil)))))
def Fo:D3:=(sRet D9)
def DA:F3:=fun3 1 1 Fo
def Pf:zC DA 1:=zM
def BW:D3:=(sSeq (sIf (tE (eOp zD (pV 1) (kJ 0))) (sRet (eCall BV (aCons (pV 0) aNil))) sSkip) (sSeq (sIf (tE (eOp zD (pV 1) (kJ 1))) (sRet (eCall DA (aCons (pV 0) aNil))) sSkip) (sRet (eCall D7 (aCons (pV 0) aNil)))))
def AG:F3:=fun3 2 2 BW
def Pg:zC AG 2:=zM
def Gp:D3:=(sSeq (sSet 2 (eC .non)) (sSeq (sSet 3 (eC .non)) (sSeq (AW (qv jc) (some 2) AG (aCons (pV 0) (aCons (pV 1) aNil)) [(("YardError" :Str),some 4,(sSet 3 (eLst (aCons (pE (eB (bIsE (qv jc)) (aCons (pV 4) (aCons (pE (eC (.cls ("NoLine" :Str)))) aNil)))) (aCons (pE (eB (bIsE (qv jc)) (aCons (pV 4) (aCons (pE (eC (.cls ("NoSpans" :Str)))) aNil)))) (aCons (pE (eB (bIsE (qv jc)) (aCons (pV 4) (aCons (pE (eC (.cls ("NoName" :Str)))) aNil)))) (aCons (pE (eB (bIsE (qv jc)) (aCons (pV 4) (aCons (pE (eC (.cls ("NoNumber" :Str)))) aNil)))) aNil)))))))]) (sSeq (sIf (tE (eOp (oIsN false) (pV 3) (pE (eC .non)))) (sRetS 2) sSkip) (sRetS 3)))))
def Ek:F3:=fun3 2 5 Gp
def Ph:zC Ek 2:=zM
def Ht:D3:=(zw (Hh (aCons (pV 0) aNil)) (gT (gsCons (gN 1) (gsCons (gN 2) gsNil))) (sIf (tAnd3 (tE (eOp (yy true) (pV 2) (pE (eC (.str ("abcdefghijklmnopqrstuvwxyz" :Str)))))) (tOr3 (tE (eOp zD (pV 1) (kJ 0))) (tE (eOp (yy true) (pV 2) (pE (eC (.str ("0123456789" :Str)))))))) (sRet (eC (.bl false))) sSkip))
def Fp:D3:=(sSeq (sIf (tOr3 (tE (eOp oLt (pE (eB bLen (aCons (pV 0) aNil))) (kJ 1))) (tE (eOp jr (pE (eB bLen (aCons (pV 0) aNil))) (kJ 8)))) (sRet (eC (.bl false))) sSkip) (sSeq Ht (sRet (eC (.bl true)))))
def BX:F3:=fun3 1 3 Fp
def Pi:zC BX 1:=zM
def Gq:D3:=(zw (Fb (aCons (pV 4) (aCons (pV 1) aNil))) (gT (gsCons (gN 6) (gsCons (gN 7) gsNil))) (sSeq (sIf (tAnd3 (tE (eOp zD (pV 7) (pE (eC (.str ("w" :Str)))))) (tNot3 (tE (eCall BX (aCons (pV 6) aNil))))) (sRet (eC .non)) sSkip) (sSeq (sIf (tAnd3 (tE (eOp zD (pV 7) (pE (eC (.str ("n" :Str)))))) (tNot3 (tE (eCall qX (aCons (pV 6) aNil))))) (sRet (eC .non)) sSkip) (sSeq (sIf (tAnd3 (tE (eOp zD (pV 7) (pE (eC (.str ("m" :Str)))))) (tAnd3 (tE (eOp qf (pV 6) (pE (eC (.str ("-1" :Str)))))) (tNot3 (tE (eCall qX (aCons (pV 6) aNil)))))) (sRet (eC .non)) sSkip) (sSeq (qI qk (pV 5) (aCons (pV 6) aNil)) (sIf (tE (eOp qf (pV 7) (pE (eC (.str ("w" :Str)))))) (qQ (pV 5) (pE (eNeg (kJ 1))) (eB qF (aCons (pV 6) aNil))) sSkip))))))
def Hu:D3:=(zw (iL (pE (qU (pV 0) (aCons (pE (eC (.str ("; " :Str)))) aNil)))) (gN 3) (sSeq (sSet 4 (qU (pV 3) (aCons (pE (eC (.str (" " :Str)))) aNil))) (sSeq (sIf (tE (eOp qf (pE (eB bLen (aCons (pV 4) aNil))) (pE (eB bLen (aCons (pV 1) aNil))))) (sRet (eC .non)) sSkip) (sSeq (sSet 5 (eLst aNil)) (sSeq (sFz 4) (sSeq Gq (qI qk (pV 2) (aCons (pE (eB EZ (aCons (pV 5) aNil))) aNil))))))))
def Hv:D3:=(sSeq (sSet 2 (eLst aNil)) (sSeq Hu (sRetS 2)))
def Fq:F3:=fun3 2 8 Hv
def Pj:zC Fq 2:=zM
def Hw:D3:=(zw (iL (pE (qU (pV 0) (aCons (pE (eC (.str (" " :Str)))) aNil)))) (gN 2) (sSeq (sAsg (gT (gsCons (gN 3) (gsCons (gN 4) (gsCons (gN 5) gsNil)))) (EY (pV 2) (aCons (pE (eC (.str ("-" :Str)))) aNil))) (sSeq (sIf (tOr3 (tNot3 (tE (eCall qX (aCons (pV 3) aNil)))) (tOr3 (tNot3 (tE (eCall qX (aCons (pV 5) aNil)))) (tE (eOp jr (pE (eB qF (aCons (pV 3) aNil))) (pE (eB qF (aCons (pV 5) aNil))))))) (sRet (eC .non)) sSkip) (sSeq (sIf (tAnd3 (tE (eOp qf (pV 1) (pE (eLst aNil)))) (tE (eOp oLe (pE (eB qF (aCons (pV 3) aNil))) (pE (eOp zf (pE (eOp zJ (pE (eOp zJ (pV 1) (pE (eNeg (kJ 1))))) (kJ 1))) (kJ 1)))))) (sRet (eC .non)) sSkip) (qI qk (pV 1) (aCons (pE (eTup (aCons (pE (eB qF (aCons (pV 3) aNil))) (aCons (pE (eB qF (aCons (pV 5) aNil))) aNil)))) aNil))))))
def Hx:D3:=(sSeq (sSet 1 (eLst aNil)) (sSeq Hw (sRetS 1)))
def Fs:F3:=fun3 1 6 Hx
def Pk:zC Fs 1:=zM
def El:D3:=(sSeq (sIf (tE (eOp zD (pV 0) (pE (eC (.str ("-" :Str)))))) (sRet (eLst aNil)) sSkip) (sSeq (sIf (tE (eOp zD (pV 1) (kJ 0))) (sRet (eCall Fs (aCons (pV 0) aNil))) sSkip) (sRet (eCall Fq (aCons (pV 0) (aCons (pE (eOp zJ (pE (eLst (aCons (pE (eC (.str ("" :Str)))) (aCons (pE (eC (.str ("nnw" :Str)))) (aCons (pE (eC (.str ("wnmnn" :Str)))) aNil))))) (pV 1))) aNil))))))
def AH:F3:=fun3 2 2 El
def Pl:zC AH 2:=zM
def Em:D3:=(sSeq (sSet 2 (eCall Ek (aCons (pV 0) (aCons (pV 1) aNil)))) (sSeq (sSet 3 (eCall AH (aCons (pV 0) (aCons (pV 1) aNil)))) (sSeq (sIf (tE (eOp (oIsN false) (pV 3) (pE (eC .non)))) (sRet (eOp zD (pV 2) (pE (eLst (aCons (pE (eC (.bl true))) (aCons (pE (eC (.bl false))) (aCons (pE (eC (.bl false))) (aCons (pE (eC (.bl false))) aNil)))))))) sSkip) (sRet (eOp zD (pV 2) (pV 3))))))
def jx:F3:=fun3 2 4 Em
def JM:zC jx 2:=zM
def Ft:D3:=(zw (qC (aCons (kJ 3) aNil)) (gN 6) (sSeq (sFz 4) (sSeq (sFz 5) (sIf (tOr3 (tNot3 (tE (eCall jx (aCons (pV 5) (aCons (pV 6) aNil))))) (tNot3 (tE (eCall jx (aCons (pV 4) (aCons (pV 6) aNil)))))) (sRet (eC (.bl false))) sSkip))))
def Fu:D3:=(zw (iL (pE (qU (pV 5) (aCons (pE (eC (.str (" " :Str)))) aNil)))) (gN 7) (sIf (tNot3 (tE (eCall BC (aCons (pV 7) aNil)))) (sRet (eC (.bl false))) sSkip))
def Hy:D3:=(zw (iR3 (aCons (kJ 3) (aCons (pE (eB bMax (aCons (kJ 6) (aCons (pE (eB bMin (aCons (pE (eB bLen (aCons (pV 0) aNil))) (aCons (kJ 63) aNil)))) aNil)))) (aCons (kJ 3) aNil)))) (gN 2) (sSeq (sSet 3 (eOp zj (pE (eCall yJ (aCons (pV 0) (aCons (pV 2) aNil)))) (kJ 3))) (sSeq (sFz 1) (sSeq (sSet 4 (eCall AY (aCons (pE (eCall CW (aCons (pE (eOp zB (pE (eCall yJ (aCons (pV 0) (aCons (pV 2) aNil)))) (kJ 3))) (aCons (pV 3) (aCons (pV 1) aNil))))) (aCons (pV 3) aNil)))) (sSeq (sFz 4) (sSeq (sSet 5 (eCall Eh (aCons (pV 4) (aCons (pE (eCall yJ (aCons (pV 0) (aCons (pE (eOp zf (pV 2) (kJ 1))) aNil)))) (aCons (pE (eCall yJ (aCons (pV 0) (aCons (pE (eOp zf (pV 2) (kJ 2))) aNil)))) aNil))))) (sSeq Ft Fu)))))))
def Hz:D3:=(sSeq (sSet 1 (eCall Fc (aCons (pE (eCall yJ (aCons (pV 0) (aCons (kJ 0) aNil)))) (aCons (pE (eOp zf (kJ 1) (pE (eOp zj (pE (eCall yJ (aCons (pV 0) (aCons (kJ 1) aNil)))) (kJ 4))))) aNil)))) (sSeq Hy (sRet (eAnd (eCall BC (aCons (pE (eC (.str ("" :Str)))) aNil)) (eCall BC (aCons (pE (eC (.str ("00" :Str)))) aNil))))))
def f_law:F3:=fun3 1 8 Hz
end My
namespace My
open PySem PySem.Spec PyProof.Rows L2 L3
def yx (i:Nat):Stmt:=PySem.Challenge.pw_dueyard_k82_texts_refused.main.body.getD i (.Pass ⟨0,0,0,0⟩)
abbrev JN:Stmt:=yx 27
def o0:FnScope ["_law_cell_here","_law_many","_law_letters","_law_size","_law_at","_law_names_here","_law_k","_law_name_here","_law_j","_law_place"] ["_law_cell_here","_law_many"] (zR JN):=zG
abbrev JO:Stmt:=yx 26
def o1:FnScope ["_law_script","_law_k","_law_number"] ["_law_script","_law_k"] (zR JO):=zG
abbrev HA:Stmt:=yx 29
def o2:FnScope ["_law_rows_here","_law_kind"] ["_law_rows_here","_law_kind"] (zR HA):=zG
abbrev JP:Stmt:=yx 30
def o3:FnScope ["_law_text_here","_law_cell_here","_law_other","_law_sign","_law_at","_law_way","_law_words","_law_place","_law_tail"] ["_law_text_here","_law_cell_here","_law_other"] (zR JP):=zG
abbrev JQ:Stmt:=yx 31
def o4:FnScope ["_law_word","_law_sign"] ["_law_word"] (zR JQ):=zG
abbrev HB:Stmt:=yx 15
def o5:FnScope ["word"] ["word"] (zR HB):=zG
abbrev JR:Stmt:=yx 16
def o6:FnScope ["word"] ["word"] (zR JR):=zG
abbrev JS:Stmt:=yx 38
def o7:FnScope ["_law_word","_law_found","_law_refused"] ["_law_word"] (zR JS):=zG
abbrev JT:Stmt:=yx 28
def o8:FnScope ["_law_cell_here","_law_kind","_law_names_here","_law_rows_here","_law_turn","_law_k","_law_number","_law_name_here","_law_last"] ["_law_cell_here","_law_kind","_law_names_here"] (zR JT):=zG
abbrev HC:Stmt:=yx 10
def o9:FnScope ["thing"] ["thing"] (zR HC):=zG
abbrev JU:Stmt:=yx 18
def Pm:FnScope ["word"] ["word"] (zR JU):=zG
abbrev JV:Stmt:=yx 17
def Pn:FnScope ["word"] ["word"] (zR JV):=zG
abbrev JW:Stmt:=yx 23
def En:FnScope ["row","name","first","last","work","breadth"] ["row"] (zR JW):=zG
abbrev Gr:Stmt:=yx 21
def JX:FnScope ["text","words","rows"] ["text","words"] (zR Gr):=zG
abbrev HD:Stmt:=yx 24
def Po:FnScope ["text"] ["text"] (zR HD):=zG
abbrev JY:Stmt:=yx 19
def Gs:FnScope ["word","first","minus","last"] ["word"] (zR JY):=zG
abbrev HE:Stmt:=yx 20
def Eo:FnScope ["text","spans","behind","first","last"] ["text"] (zR HE):=zG
abbrev HF:Stmt:=yx 22
def Pp:FnScope ["text"] ["text"] (zR HF):=zG
abbrev JZ:Stmt:=yx 36
def Pq:FnScope ["_law_text_here","_law_kind"] ["_law_text_here","_law_kind"] (zR JZ):=zG
abbrev Ka:Stmt:=yx 37
def Ep:FnScope ["_law_text_here","_law_kind","_law_found","_law_kinds","e"] ["_law_text_here","_law_kind"] (zR Ka):=zG
abbrev Kb:Stmt:=yx 32
def HG:FnScope ["_law_word","_law_k","_law_sign"] ["_law_word"] (zR Kb):=zG
abbrev Kc:Stmt:=yx 34
def DB:FnScope ["_law_text_here","_law_form","_law_found","_law_part","_law_words","_law_row","_law_word","_law_sign"] ["_law_text_here","_law_form"] (zR Kc):=zG
abbrev Ke:Stmt:=yx 33
def Er:FnScope ["_law_text_here","_law_found","_law_part","_law_first","_law_middle","_law_last"] ["_law_text_here"] (zR Ke):=zG
abbrev Kf:Stmt:=yx 35
def Pr:FnScope ["_law_text_here","_law_kind"] ["_law_text_here","_law_kind"] (zR Kf):=zG
abbrev Kg:Stmt:=yx 39
def HH:FnScope ["_law_text_here","_law_kind","_law_found","_law_due_here"] ["_law_text_here","_law_kind"] (zR Kg):=zG
abbrev Kh:Stmt:=yx 40
def BY:FnScope ["_law_script","_law_names_here","_law_k","_law_kind","_law_text_here","_law_spoilt_here","_law_which","_law_word"] ["_law_script"] (zR Kh):=zG
set_option genInjectivity false in
structure Txt (K:FG) (mg:Str->Option Value) where
 q0:Addr
 q1:FuncData
 q2:Dfn K mg "_law_names" JN ["_law_cell_here","_law_many"] q0 q1
 q3:Addr
 q4:FuncData
 q5:Dfn K mg "_law_cell" JO ["_law_script","_law_k"] q3 q4
 q6:Addr
 q7:FuncData
 q8:Dfn K mg "_law_text" HA ["_law_rows_here","_law_kind"] q6 q7
 q9:Addr
 q10:FuncData
 q11:Dfn K mg "_law_spoilt" JP ["_law_text_here","_law_cell_here","_law_other"] q9 q10
 q12:Addr
 q13:FuncData
 q14:Dfn K mg "_law_figures" JQ ["_law_word"] q12 q13
 q15:Addr
 q16:FuncData
 q17:Dfn K mg "are_figures" HB ["word"] q15 q16
 q18:Addr
 q19:FuncData
 q20:Dfn K mg "number_in" JR ["word"] q18 q19
 q21:Addr
 q22:FuncData
 q23:Dfn K mg "_law_number_right" JS ["_law_word"] q21 q22
 q24:Addr
 q25:FuncData
 q26:Dfn K mg "_law_rows" JT ["_law_cell_here","_law_kind","_law_names_here"] q24 q25
 q27:Addr
 q28:FuncData
 q29:Dfn K mg "is_name" HC ["thing"] q27 q28
 q30:Addr
 q31:FuncData
 q32:Dfn K mg "name_in" JU ["word"] q30 q31
 q33:Addr
 q34:FuncData
 q35:Dfn K mg "last_in" JV ["word"] q33 q34
 q36:Addr
 q37:FuncData
 q38:Dfn K mg "job_in" JW ["row"] q36 q37
 q39:Addr
 q40:FuncData
 q41:Dfn K mg "rows_in" Gr ["text","words"] q39 q40
 q42:Addr
 q43:FuncData
 q44:Dfn K mg "load_in" HD ["text"] q42 q43
 q45:Addr
 q46:FuncData
 q47:Dfn K mg "span_in" JY ["word"] q45 q46
 q48:Addr
 q49:FuncData
 q50:Dfn K mg "spans_in" HE ["text"] q48 q49
 q51:Addr
 q52:FuncData
 q53:Dfn K mg "plan_in" HF ["text"] q51 q52
 q54:Addr
 q55:FuncData
 q56:Dfn K mg "_law_asked" JZ ["_law_text_here","_law_kind"] q54 q55
 q57:Addr
 q58:FuncData
 q59:Dfn K mg "_law_told" Ka ["_law_text_here","_law_kind"] q57 q58
 q60:Addr
 q61:FuncData
 q62:Dfn K mg "_law_name" Kb ["_law_word"] q60 q61
 q63:Addr
 q64:FuncData
 q65:Dfn K mg "_law_listed" Kc ["_law_text_here","_law_form"] q63 q64
 q66:Addr
 q67:FuncData
 q68:Dfn K mg "_law_spans" Ke ["_law_text_here"] q66 q67
 q69:Addr
 q70:FuncData
 q71:Dfn K mg "_law_due" Kf ["_law_text_here","_law_kind"] q69 q70
 q72:Addr
 q73:FuncData
 q74:Dfn K mg "_law_right" Kg ["_law_text_here","_law_kind"] q72 q73
 f_law:Addr
 fd_law:FuncData
 d_law:Dfn K mg "law" Kh ["_law_script"] f_law fd_law
 q75:Addr
 q76:mg "YardError" =some (.ref q75)
 q77:Addr
 q78:mg "NoName" =some (.ref q77)
 q79:Addr
 q80:mg "NoNumber" =some (.ref q79)
 q81:Addr
 q82:mg "NoSpans" =some (.ref q81)
 q83:Addr
 q84:mg "NoLine" =some (.ref q83)
 q85:XCl K mg "NoLine" q83
 q86:ExK K q83
 q87:PySem.W.exmOne K (.ref q83) (.ref q75)=some true
 q88:PySem.W.kitOne K (.ref q83) (.ref q75)=some true
 q89:PySem.W.exmOne K (.ref q83) (.ref q83)=some true
 q90:PySem.W.kitOne K (.ref q83) (.ref q83)=some true
 q91:PySem.W.exmOne K (.ref q83) (.ref q81)=some false
 q92:PySem.W.kitOne K (.ref q83) (.ref q81)=some false
 q93:PySem.W.exmOne K (.ref q83) (.ref q77)=some false
 q94:PySem.W.kitOne K (.ref q83) (.ref q77)=some false
 q95:PySem.W.exmOne K (.ref q83) (.ref q79)=some false
 q96:PySem.W.kitOne K (.ref q83) (.ref q79)=some false
 q97:mg "all" =none
 q98:mg "any" =none
 q99:mg "enumerate" =none
 q100:mg "int" =none
 q101:mg "isinstance" =none
 q102:mg "len" =none
 q103:mg "list" =none
 q104:mg "max" =none
 q105:mg "min" =none
 q106:mg "range" =none
 q107:mg "str" =none
 q108:mg "tuple" =none
 q109:mg "zip" =none
 q110:Tok
 q111:mg "LETTERS" =some (.str ("abcdefghijklmnopqrstuvwxyz" :Str) q110)
 q112:Tok
 q113:mg "LETTERS_AND_FIGURES" =some (.str ("abcdefghijklmnopqrstuvwxyz0123456789" :Str) q112)
 q114:Tok
 q115:mg "MOST_SIGNS" =some (.int 8 q114)
 q116:Tok
 q117:mg "FIGURES" =some (.str ("0123456789" :Str) q116)
 q118:Tok
 q119:mg "MOST_FIGURES" =some (.int 11 q118)
 q120:Tok
 q121:mg "NOTHING" =some (.str ("-" :Str) q120)
def kx {K:FG} {mg:Str->Option Value} (T:Txt K mg):Kx:=⟨K,fun c=>([(("YardError" :Str),T.q75),(("NoName" :Str),T.q77),(("NoNumber" :Str),T.q79),(("NoSpans" :Str),T.q81),(("NoLine" :Str),T.q83)]:List (Str×Addr)).lookup c⟩
def Es {K:FG} {mg:Str->Option Value} (T:Txt K mg):MtL (kx T) jc:=(MtL.cons rfl rfl T.q87 T.q88 T.q86 (MtL.cons rfl rfl T.q89 T.q90 T.q86 (MtL.cons rfl rfl T.q91 T.q92 T.q86 (MtL.cons rfl rfl T.q93 T.q94 T.q86 (MtL.cons rfl rfl T.q95 T.q96 T.q86 MtL.nil)))))
section
variable {P:Program} {w:World} {K:FG} {mg:Str->Option Value} {base:Heap}
def Pt (T:Txt K mg):FnOk P w K mg base (XT P w) 1 T.q0 T.q1 ["_law_cell_here","_law_many"] (zx (kx T) 2 Fc):=yE T.q2.F o0 fun cdv A outer s H E hr=>by unfold Hk Hj Hi;exact (zn (zU 2 o0.nd zy) (zn (zU 3 o0.nd (zm zY ya zk (za (zm yp ym (zb 0) zk)))) (zn (zU 4 o0.nd (zm yp ym (za (zm qO qG (zb 0) zk)) (zb 3))) (zn (zU 5 o0.nd (yF zg)) (zn (jf (FU rfl T.q106 (ze (zb 1) zg)) (yC 6 o0.nd) (zn (zU 7 o0.nd zy) (AR 3 (zn (jf (FU rfl T.q106 (ze (zb 3) zg)) (yC 8 o0.nd) (zn (zU 9 o0.nd (zm zY ya (za (zm qO qG (zb 0) (za (zm zY ya zk (za (zm BL BK zk (zb 8))))))) (za (zm BL BK (zb 6) (za (zZ Jt Iv (by rfl) T.q100 Bv (ze (za (qY yu (yr (yi hr)) (zL _) (zb 8) (zb 4))) zg))))))) (zo (z0 (zX yu (yr (yi hr)) (zL _) (zb 8) zk) (zo (zU 7 o0.nd (zm zY ya (zb 7) (qq (zb 2) (za (zm yp ym (zb 9) zk)))))) (zo (zU 7 o0.nd (zm zY ya (zb 7) (qq (za (zm zY ya (zb 2) (za zy))) (za (zm yp ym (zb 9) zk)))))))))) (AR 7 (zo (CS CT rfl Ck Cm AM (zb 5) (ze (zb 7) zg)))))))) (zo (AB (pv 5))))))))
def Et (T:Txt K mg):FnOk P w K mg base (XT P w) 1 T.q3 T.q4 ["_law_script","_law_k"] (zx (kx T) 2 yJ):=yE T.q5.F o1 fun cdv A outer s H E hr=>by unfold Fd;exact (zn (z0 (zX FT FC (zL _) (zb 1) (za (yK qh (qe rfl) T.q102 A6 (ze (zb 0) zg)))) (zo (zT (EX (zb 0) (zb 1)))) ye) (zn (zU 2 o1.nd (zm zY ya (za (zm BL BK zk (zb 1))) zk)) (zn (z0 (zX DY DP (zL _) (za (yK qh (qe rfl) T.q102 A6 (ze (zb 0) zg))) zk) (zo (zU 2 o1.nd (zm zY ya (zb 2) (za (zm BL BK (za (zm yp ym (qq (zb 0) (za (zm yp ym (za (zm BL BK zk (zb 1))) (za (yK qh (qe rfl) T.q102 A6 (ze (zb 0) zg)))))) zk)) (za (zm zY ya (zb 1) zk))))))) ye) (zo (zT (zm yp ym (za (zm BL BK (zb 2) (zb 2))) zk))))))
def Pu (T:Txt K mg):FnOk P w K mg base (XT P w) 1 T.q6 T.q7 ["_law_rows_here","_law_kind"] (zx (kx T) 2 AY):=yE T.q8.F o2 fun cdv A outer s H E hr=>by unfold Eg Fe;exact (zn (z0 (zX yu (yr (yi hr)) (zL _) (zb 0) (za (yF zg))) (zo (zT zy)) ye) (zo (zT (He rfl (qq (za (yF (ze (za zy) (ze (za zy) (ze (za zy) zg))))) (zb 1)) (ze (za (FV (loc:=["_law_words"]) (free:=[]) (fr:=[]) rfl (BH (sc:=zR HA) (N:=(["_law_rows_here","_law_kind"]:List Str)) rfl rfl (by decide+kernel)) (AC (zb 0)) (fun _ _ _ _ _=>(AA 0 (["_law_words"]:List Str))) (fun _ _ _ _ _=>BN) (fun _ _ _ _ _=>(He rfl (za zy) (ze (zb 0) zg))))) zg)))))
def Pv (T:Txt K mg):FnOk P w K mg base (XT P w) 1 T.q9 T.q10 ["_law_text_here","_law_cell_here","_law_other"] (zx (kx T) 3 Eh):=yE T.q11.F o3 fun cdv A outer s H E hr=>by unfold Hl;exact (zn (zU 3 o3.nd (zm zY ya (za (zZ OI (OD rfl) (by rfl) T.q103 PyProof.Rows.boot_list (ze (za zy) zg))) (za (yF (ze (za zy) (ze (za zy) zg)))))) (zn (zU 3 o3.nd (EX (zb 3) (za (zm yp ym (zb 2) (za (yK qh (qe rfl) T.q102 A6 (ze (zb 3) zg))))))) (zn (zU 4 o3.nd (zm yp ym (za (zm qO qG (zb 2) zk)) (za (zm zY ya (za (yK qh (qe rfl) T.q102 A6 (ze (zb 0) zg))) zk)))) (zn (zU 5 o3.nd (zm yp ym (zb 1) zk)) (zn (z0 (zX yu (yr (yi hr)) (zL _) (zb 5) zk) (zo (zT (zm zY ya (za (zm zY ya (za (yn rfl (zb 0) qB (qo (zb 4)))) (zb 3))) (za (yn rfl (zb 0) (qo (zb 4)) qB))))) ye) (zn (z0 (zX yu (yr (yi hr)) (zL _) (zb 5) zk) (zo (zT (zm zY ya (za (yn rfl (zb 0) qB (qo (zb 4)))) (za (yn rfl (zb 0) (qo (za (zm zY ya (zb 4) zk))) qB))))) ye) (zn (z0 (zX yu (yr (yi hr)) (zL _) (zb 5) zk) (zo (zT (zm zY ya (za (zm zY ya (za (yn rfl (zb 0) qB (qo (zb 4)))) (zb 3))) (za (yn rfl (zb 0) (qo (za (zm zY ya (zb 4) zk))) qB))))) ye) (zn (zU 6 o3.nd (BQ (zb 0) (ze (za zy) zg))) (zn (zU 7 o3.nd (zm yp ym (za (zm qO qG (zb 2) zk)) (za (yK qh (qe rfl) T.q102 A6 (ze (zb 6) zg))))) (zn (z0 (zX yu (yr (yi hr)) (zL _) (zb 5) zk) (zo (zU 6 o3.nd (zm zY ya (za (zm zY ya (za (yn rfl (zb 6) qB (qo (zb 7)))) (za (yF (ze (qq (za (yF (ze (za zy) (ze (za zy) (ze (za zy) (ze (za zy) (ze (za zy) (ze (za zy) zg)))))))) (za (zm yp ym (zb 2) zk))) zg))))) (za (yn rfl (zb 6) (qo (zb 7)) qB))))) ye) (zn (z0 (zX yu (yr (yi hr)) (zL _) (zb 5) zk) (zo (zU 6 o3.nd (zm zY ya (za (zm zY ya (za (yn rfl (zb 6) qB (qo (zb 7)))) (za (yn rfl (zb 6) (qo (zb 7)) (qo (za (zm zY ya (zb 7) zk))))))) (za (yn rfl (zb 6) (qo (zb 7)) qB))))) ye) (zn (z0 (zX yu (yr (yi hr)) (zL _) (zb 5) zk) (zo (zU 6 o3.nd (zm zY ya (za (yn rfl (zb 6) qB (qo (zb 7)))) (za (yn rfl (zb 6) (qo (za (zm zY ya (zb 7) zk))) qB))))) ye) (zn (z0 (zX yu (yr (yi hr)) (zL _) (zb 5) zk) (zo (GX (zm zY ya (za (zZ AV AU (by rfl) T.q107 Bw (ze (za (zm NH LL (za (zm EV EB zk zk)) (za (zm yp ym (zb 2) zk)))) zg))) (qq (za (yF (ze (za zy) (ze (za zy) zg)))) (za (zm yp ym (za (zm qO qG (zb 2) zk)) zk)))) (zb 6) (zb 7) fun a b c=>DO a (GE b c GK))) ye) (zn (z0 (zX yu (yr (yi hr)) (zL _) (zb 5) zk) (zn (zU 8 o3.nd (yn rfl (qq (zb 6) (zb 7)) (qo (za (EW zk))) qB)) (zo (GX (zm zY ya (qq (za (yF (ze (za zy) (ze (za zy) (ze (za zy) (ze (za zy) (ze (za zy) (ze (za zy) zg)))))))) (za (zm yp ym (zb 2) zk))) (za (zm OJ OE (zb 8) (za (zZ Jt Iv (by rfl) T.q100 Bv (ze (za (qY yu (yr (yi hr)) (zL _) (zb 8) (za zy))) zg)))))) (zb 6) (zb 7) fun a b c=>DO a (GE b c GK)))) ye) (zn (z0 (PW.pt (CL (zX yu (yr (yi hr)) (zL _) (zb 5) zk) (DV (zX DY DP (zL _) (za (zm yp ym (za (zm qO qG (zb 1) zk)) zk)) zk)))) (zn (zU 4 o3.nd (EX (za (yF (ze (zb 4) (ze (za (yK qh (qe rfl) T.q102 A6 (ze (zb 0) zg))) zg)))) (za (zm yp ym (za (zm qO qG (zb 1) zk)) zk)))) (zo (zT (zm zY ya (za (zm zY ya (za (yn rfl (zb 0) qB (qo (zb 4)))) (qq (za (yF (ze (za zy) (ze (za zy) (ze (za zy) (ze (za zy) (ze (za zy) (ze (za zy) zg)))))))) (za (zm yp ym (zb 2) zk))))) (za (yn rfl (zb 0) (qo (zb 4)) qB)))))) ye) (AR 6 (zo (zT (He rfl (za zy) (ze (zb 6) zg))))))))))))))))))))
def Fv (T:Txt K mg):FnOk P w K mg base (XT P w) 1 T.q12 T.q13 ["_law_word"] (zx (kx T) 1 qX):=yE T.q14.F o4 fun cdv A outer s H E hr=>by unfold Ff Hn;exact (zn (z0 (PW.pt (AQ (zX FT FC (zL _) (za (yK qh (qe rfl) T.q102 A6 (ze (zb 0) zg))) zk) (BJ (zX DY DP (zL _) (za (yK qh (qe rfl) T.q102 A6 (ze (zb 0) zg))) zk)))) (zo (zT yw)) ye) (zn (jf (GY (zb 0)) (yC 1 o4.nd) (zo (z0 (zX Hf GH (by with_unfolding_all rfl) (zb 1) (za zy)) (zo (zT yw)) ye))) (zo (zT (r_or (qY yu (yr (yi hr)) (zL _) (zb 0) (za zy)) (EM (qY CP (CO (yi hr)) (zL _) (qq (zb 0) zk) (za zy))))))))
def Pw (T:Txt K mg):FnOk P w K mg base (XT P w) 1 T.q15 T.q16 ["word"] (zx (kx T) 1 AZ):=yE T.q17.F o5 fun cdv A outer s H E hr=>by unfold CV Gf;exact (zn (z0 (PW.pt (AQ (qM (Jz EU EU EC EC zk (za (yK qh (qe rfl) T.q102 A6 (ze (zb 0) zg))) (za (qu (jt (v:= .int 11) (by rfl) T.q119 ⟨_,rfl⟩) fun _ _ _=>.int _)))) (BJ (qM (qN (yK GV (Jw rfl rfl) T.q97 PyProof.Rows.boot_all (ze (za (FV (loc:=["sign"]) (free:=[]) (fr:=[]) rfl (BH (sc:=zR HB) (N:=(["word"]:List Str)) rfl rfl (by decide+kernel)) (GY (zb 0)) (fun _ _ _ _ _=>(AA 0 (["sign"]:List Str))) (fun _ _ _ _ _=>BN) (fun _ _ _ _ _=>(qY GZ GG (by with_unfolding_all rfl) (zb 0) (za (qu (jt (v:= .str ("0123456789" :Str)) (by rfl) T.q117 ⟨_,rfl⟩) fun _ _ _=>.str _)))))) zg))))))) (zo (zT yw)) ye) (zo (zT (r_or (qY CP (CO (yi hr)) (zL _) (qq (zb 0) zk) (za zy)) (EM (qY yu (yr (yi hr)) (zL _) (zb 0) (za zy)))))))
def BE (T:Txt K mg):FnOk P w K mg base (XT P w) 2 T.q18 T.q19 ["word"] (zx (kx T) 1 qt):=yE T.q20.F o6 fun cdv A outer s H E hr=>by unfold Gg;exact (zn (z0 (qM (qN (yf OX (Pw T) hr T.q17 (ze (zb 0) zg)))) (zo (FW rfl T.q85 rfl (by rfl) FH (ze (za zy) zg))) ye) (zo (zT (zZ BR BP (by rfl) T.q100 Bv (ze (zb 0) zg)))))
def HI (T:Txt K mg):FnOk P w K mg base (XT P w) 3 T.q21 T.q22 ["_law_word"] (zx (kx T) 1 BC):=yE T.q23.F o7 fun cdv A outer s H E hr=>by unfold Gh;exact (zn (zU 1 o7.nd js) (zn (zU 2 o7.nd yw) (zn (JA (j:=1) BB (BE T) (hr.mono (by decide)) (by rfl) T.q20.g T.q20.F.kp T.q20.b (fun _ _=>(ze (zb 0) zg)) rfl rfl rfl o7.nd rfl (Or.inl rfl) (Ou rfl ((Es T).ok rfl) (by rfl) T.q84 (fun _=>(zo (zU 2 o7.nd yw))) J9)) (zn (z0 (qN (yf Fg (Fv T) hr T.q14 (ze (zb 0) zg))) (zo (zT (GP (N2 (r_v (pv 2))) (EM (qY yu (yr (yi hr)) (zL _) (zb 1) (za (zZ BR BP (by rfl) T.q100 Bv (ze (zb 0) zg)))))))) ye) (zo (AB (pv 2)))))))
def Px (T:Txt K mg):FnOk P w K mg base (XT P w) 1 T.q24 T.q25 ["_law_cell_here","_law_kind","_law_names_here"] (zx (kx T) 3 CW):=yE T.q26.F o8 fun cdv A outer s H E hr=>by unfold Hr Hq;exact (zn (zU 3 o8.nd (yF zg)) (zn (zU 4 o8.nd (zm yp ym (zb 0) (za (zm EV EB zk zk)))) (zn (jf (FU rfl T.q106 (ze (za (zm yp ym (za (zm qO qG (zb 0) zk)) zk)) zg)) (yC 5 o8.nd) (zn (zU 6 o8.nd (zm zY ya (za (zm qO qG (zb 0) (za (zm zY ya zk (za (zm BL BK zk (zb 5))))))) (za (zm BL BK zk (zb 5))))) (zn (zU 7 o8.nd (EX (zb 2) (za (zm yp ym (zb 6) (za (yK qh (qe rfl) T.q102 A6 (ze (zb 2) zg))))))) (zo (z0 (zX yu (yr (yi hr)) (zL _) (zb 1) zk) (zn (CS CT rfl Ck Cm AM (zb 3) (ze (za (yF (ze (za (zm zY ya (za (zm zY ya (za (zZ AV AU (by rfl) T.q107 Bw (ze (zb 4) zg))) (za zy))) (za (zZ AV AU (by rfl) T.q107 Bw (ze (za (zm zY ya (zb 4) (za (zm yp ym (zb 6) zk)))) zg))))) zg))) zg)) (zo (zU 4 o8.nd (zm zY ya (za (zm zY ya (zb 4) (za (zm yp ym (zb 6) zk)))) (qq (za (yF (ze zk (ze zk (ze zk (ze zk (ze zk (ze zk zg)))))))) (za (zm yp ym (za (zm qO qG (zb 6) zk)) zk))))))) (zo (z0 (zX yu (yr (yi hr)) (zL _) (zb 1) zk) (zo (CS CT rfl Ck Cm AM (zb 3) (ze (za (yF (ze (za (zZ AV AU (by rfl) T.q107 Bw (ze (za (zm yp ym (zb 6) (za (zm EV EB zk zk)))) zg))) (ze (za (zZ AV AU (by rfl) T.q107 Bw (ze (za (zm yp ym (za (zm qO qG (zb 6) zk)) zk)) zg))) (ze (zb 7) zg))))) zg))) (zn (zU 8 o8.nd (EX (za (yF (ze (za (zZ AV AU (by rfl) T.q107 Bw (ze (za (zm yp ym (za (zm qO qG (zb 6) zk)) (za (zm EV EB zk zk)))) zg))) (ze (za zy) zg)))) (za (zm yp ym (za (zm qO qG (zb 6) zk)) zk)))) (zo (CS CT rfl Ck Cm AM (zb 3) (ze (za (yF (ze (zb 7) (ze (za (zZ AV AU (by rfl) T.q107 Bw (ze (za (zm yp ym (zb 6) (za (zm EV EB zk zk)))) zg))) (ze (zb 8) (ze (za (zZ AV AU (by rfl) T.q107 Bw (ze (za (zm zY ya zk (za (zm yp ym (zb 6) zk)))) zg))) (ze (za (zZ AV AU (by rfl) T.q107 Bw (ze (za (zm zY ya zk (za (zm yp ym (zb 6) zk)))) zg))) zg))))))) zg))))))))))) (zo (AB (pv 3))))))
def Py (T:Txt K mg):FnOk P w K mg base (XT P w) 1 T.q27 T.q28 ["thing"] (zx (kx T) 1 BS):=yE T.q29.F o9 fun cdv A outer s H E hr=>by unfold Ei Gi;exact (zn (z0 (PW.pt (AQ (qM (qN (yK NS (NT rfl) T.q101 Da (ze (zb 0) (ze (za (qu (Lk (v:= .ty "str") (by rfl) T.q107 Bw rfl) fun _ _ _=>.ty _)) zg))))) (BJ (qM (Jz EU EU EC EC zk (za (yK qh (qe rfl) T.q102 A6 (ze (zb 0) zg))) (za (qu (jt (v:= .int 8) (by rfl) T.q115 ⟨_,rfl⟩) fun _ _ _=>.int _))))))) (zo (zT yw)) ye) (zo (zT (GP (qY GZ GG (by with_unfolding_all rfl) (qq (zb 0) zk) (za (qu (jt (v:= .str ("abcdefghijklmnopqrstuvwxyz" :Str)) (by rfl) T.q111 ⟨_,rfl⟩) fun _ _ _=>.str _))) (EM (yK GV (Jw rfl rfl) T.q97 PyProof.Rows.boot_all (ze (za (FV (loc:=["sign"]) (free:=[]) (fr:=[]) rfl (BH (sc:=zR HC) (N:=(["thing"]:List Str)) rfl rfl (by decide+kernel)) (GY (zb 0)) (fun _ _ _ _ _=>(AA 0 (["sign"]:List Str))) (fun _ _ _ _ _=>BN) (fun _ _ _ _ _=>(qY GZ GG (by with_unfolding_all rfl) (zb 0) (za (qu (jt (v:= .str ("abcdefghijklmnopqrstuvwxyz0123456789" :Str)) (by rfl) T.q113 ⟨_,rfl⟩) fun _ _ _=>.str _)))))) zg)))))))
def Ki (T:Txt K mg):FnOk P w K mg base (XT P w) 2 T.q30 T.q31 ["word"] (zx (kx T) 1 BD):=yE T.q32.F Pm fun cdv A outer s H E hr=>by unfold Gj;exact (zn (z0 (qM (qN (yf OZ (Py T) hr T.q29 (ze (zb 0) zg)))) (zo (FW rfl T.q85 rfl (by rfl) FH (ze (za zy) zg))) ye) (zo (AB (pv 0))))
def Pz (T:Txt K mg):FnOk P w K mg base (XT P w) 3 T.q33 T.q34 ["word"] (zx (kx T) 1 CY):=yE T.q35.F Pn fun cdv A outer s H E hr=>by unfold Fh;exact (zo (zT (r_if (zX yu (yr (yi hr)) (zL _) (zb 0) (za zy)) (EW zk) (yf BB (BE T) hr T.q20 (ze (zb 0) zg)))))
def P0 (T:Txt K mg):FnOk P w K mg base (XT P w) 4 T.q36 T.q37 ["row"] (zx (kx T) 1 AF):=yE T.q38.F En fun cdv A outer s H E hr=>by unfold BU;exact (zn (GR (r_v (pv 0)) (Jj (n:=5) (IU rfl (yV (yC 1 En.nd) (yV (yC 2 En.nd) (yV (yC 3 En.nd) (yV (yC 4 En.nd) (yV (yC 5 En.nd) CM yT) yT) yT) yT) yT)) (yW (yW (yW (yW (yW CU)))))) DO) (zo (zT (FP (ze (za (yf JK (Ki T) hr T.q32 (ze (zb 1) zg))) (ze (za (yf BB (BE T) hr T.q20 (ze (zb 2) zg))) (ze (za (yf Pa (Pz T) hr T.q35 (ze (zb 3) zg))) (ze (za (yf BB (BE T) hr T.q20 (ze (zb 4) zg))) (ze (za (yf BB (BE T) hr T.q20 (ze (zb 5) zg))) zg)))))))))
def Kj (T:Txt K mg):FnOk P w K mg base (XT P w) 1 T.q39 T.q40 ["text","words"] (zx (kx T) 2 qT):=yE T.q41.F JX fun cdv A outer s H E hr=>by unfold Fi Gm Gk;exact (zn (z0 (zX yu (yr (yi hr)) (zL _) (zb 0) (za (qu (jt (v:= .str ("-" :Str)) (by rfl) T.q121 ⟨_,rfl⟩) fun _ _ _=>.str _))) (zo (zT (yF zg))) ye) (zn (NV (i:=2) JX.nd rfl (by rfl) (loc:=["row"]) (free:=[]) (fr:=[]) rfl (BH (sc:=zR Gr) (N:=(["text","words","rows"]:List Str)) rfl rfl (by decide+kernel)) (AC (za (BQ (zb 0) (ze (za zy) zg)))) (fun _ _ _ _ _=>(AA 0 (["row"]:List Str))) (fun _ _ _ _ _=>BN) (fun _ _ _ _ _=>(BQ (zb 0) (ze (za zy) zg)))) (AR 2 (zn (z0 (qN (yK GV (NP rfl rfl) T.q98 PyProof.Rows.boot_any (ze (za (FV (loc:=["row"]) (free:=["words"]) (fr:=[1]) rfl (BH (sc:=zR Gr) (N:=(["text","words","rows"]:List Str)) rfl rfl (by decide+kernel)) (AC (zb 2)) (fun _ _ _ _ _=>(AA 0 (["row","words"]:List Str))) (fun _ _ _ _ _=>BN) (fun _ _ _ _ _=>(qY CP (CO (yi hr)) (zL _) (za (yK qh (qe rfl) T.q102 A6 (ze (zb 0) zg))) (zb 1))))) zg))) (zo (FW rfl T.q85 rfl (by rfl) FH (ze (za zy) zg))) ye) (zo (AB (pv 2)))))))
def P1 (T:Txt K mg):FnOk P w K mg base (XT P w) 5 T.q42 T.q43 ["text"] (zx (kx T) 1 D7):=yE T.q44.F Po fun cdv A outer s H E hr=>by unfold Fj CZ;exact (zo (zT (JG (loc:=["row"]) (free:=[]) (fr:=[]) Hg rfl (BH (sc:=zR HD) (N:=(["text"]:List Str)) rfl rfl (by decide+kernel)) (AC (za (yf JL (Kj T) hr T.q41 (ze (zb 0) (ze zk zg))))) (fun _ _ _ _ _ _=>(AA 0 (["row"]:List Str))) (fun _ _ _ _ _ _=>BN) (fun _ _ _ _ _ _=>(DW Pb (P0 T) (hr.mono (by decide)) (by rfl) T.q38.g T.q38.F.kp T.q38.b EI (ze (zb 0) zg))))))
def P2 (T:Txt K mg):FnOk P w K mg base (XT P w) 3 T.q45 T.q46 ["word"] (zx (kx T) 1 D8):=yE T.q47.F Gs fun cdv A outer s H E hr=>by unfold Fl;exact (zn (GR (J8 (zb 0) (ze (za zy) zg)) (ER (n:=3) (E9 rfl (yV (yC 1 Gs.nd) (yV (yC 2 Gs.nd) (yV (yC 3 Gs.nd) CM yT) yT) yT)) (yW (yW (yW CU)))) DO) (zo (zT (FP (ze (za (yf BB (BE T) hr T.q20 (ze (zb 1) zg))) (ze (za (yf BB (BE T) hr T.q20 (ze (zb 3) zg))) zg))))))
def P4 (T:Txt K mg):FnOk P w K mg base (XT P w) 4 T.q48 T.q49 ["text"] (zx (kx T) 1 BV):=yE T.q50.F Eo fun cdv A outer s H E hr=>by unfold Ej Hs Gn;exact (zn (z0 (zX yu (yr (yi hr)) (zL _) (zb 0) (za (qu (jt (v:= .str ("-" :Str)) (by rfl) T.q121 ⟨_,rfl⟩) fun _ _ _=>.str _))) (zo (zT (r_gl (yF zg)))) ye) (zn (O4 (i:=1) Eo.nd rfl (by rfl) (loc:=["word"]) (free:=[]) (fr:=[]) Hg rfl (BH (sc:=zR HE) (N:=(["text","spans","behind","first","last"]:List Str)) rfl rfl (by decide+kernel)) (AC (za (BQ (zb 0) (ze (za zy) zg)))) (fun _ _ _ _ _ _=>(AA 0 (["word"]:List Str))) (fun _ _ _ _ _ _=>BN) (fun _ _ _ _ _ _=>(DW Pd (P2 T) (hr.mono (by decide)) (by rfl) T.q47.g T.q47.F.kp T.q47.b EI (ze (zb 0) zg)))) (zn (zU 2 Eo.nd (EW zk)) (zn (jf (AC (zb 1)) (ER (n:=2) (E9 rfl (yV (yC 3 Eo.nd) (yV (yC 4 Eo.nd) CM yT) yT)) (yW (yW CU))) (zn (z0 (PW.pt (AQ (zX DY DP (zL _) (zb 3) (zb 4)) (BJ (zX FT FC (zL _) (zb 3) (za (zm zY ya (zb 2) zk)))))) (zo (FW rfl T.q85 rfl (by rfl) FH (ze (za zy) zg))) ye) (zo (zU 2 Eo.nd (r_v (pv 4)))))) (zo (AB (pv 1)))))))
def P5 (T:Txt K mg):FnOk P w K mg base (XT P w) 3 T.q51 T.q52 ["text"] (zx (kx T) 1 DA):=yE T.q53.F Pp fun cdv A outer s H E hr=>by unfold Fo D9;exact (zo (zT (JG (loc:=["turn","machine","name"]) (free:=[]) (fr:=[]) Hg rfl (BH (sc:=zR HF) (N:=(["text"]:List Str)) rfl rfl (by decide+kernel)) (AC (za (yf JL (Kj T) hr T.q41 (ze (zb 0) (ze zk zg))))) (fun _ _ _ _ _ _=>(Jj (n:=3) (IU rfl (yV (AA 0 (["turn","machine","name"]:List Str)) (yV (AA 1 (["turn","machine","name"]:List Str)) (yV (AA 2 (["turn","machine","name"]:List Str)) CM yT) yT) yT)) (yW (yW (yW CU))))) (fun _ _ _ _ _ _=>BN) (fun _ _ _ _ _ _=>(FP (ze (za (DW BB (BE T) (hr.mono (by decide)) (by rfl) T.q20.g T.q20.F.kp T.q20.b EI (ze (zb 0) zg))) (ze (za (DW BB (BE T) (hr.mono (by decide)) (by rfl) T.q20.g T.q20.F.kp T.q20.b EI (ze (zb 1) zg))) (ze (za (DW JK (Ki T) (hr.mono (by decide)) (by rfl) T.q32.g T.q32.F.kp T.q32.b EI (ze (zb 2) zg))) zg))))))))
def P6 (T:Txt K mg):FnOk P w K mg base (XT P w) 6 T.q54 T.q55 ["_law_text_here","_law_kind"] (zx (kx T) 2 AG):=yE T.q56.F Pq fun cdv A outer s H E hr=>by unfold BW;exact (zn (z0 (zX yu (yr (yi hr)) (zL _) (zb 1) zk) (zo (zT (yf Pe (P4 T) hr T.q50 (ze (zb 0) zg)))) ye) (zn (z0 (zX yu (yr (yi hr)) (zL _) (zb 1) zk) (zo (zT (yf Pf (P5 T) hr T.q53 (ze (zb 0) zg)))) ye) (zo (zT (yf Pc (P1 T) hr T.q44 (ze (zb 0) zg))))))
def P7 (T:Txt K mg):FnOk P w K mg base (XT P w) 7 T.q57 T.q58 ["_law_text_here","_law_kind"] (zx (kx T) 2 Ek):=yE T.q59.F Ep fun cdv A outer s H E hr=>by unfold Gp;exact (zn (zU 2 Ep.nd js) (zn (zU 3 Ep.nd js) (zn (JA (j:=2) Pg (P6 T) (hr.mono (by decide)) (by rfl) T.q56.g T.q56.F.kp T.q56.b (fun _ _=>(ze (zb 0) (ze (zb 1) zg))) rfl rfl rfl Ep.nd rfl (Or.inl rfl) (Ow (i:=4) rfl ((Es T).ok rfl) Ep.nd rfl (Or.inl rfl) rfl (by rfl) T.q76 (fun _=>(zo (zU 3 Ep.nd (yF (ze (za (r_b (FX (Es T).is) (FY rfl) (by rfl) T.q101 Da (ze (zb 4) (ze (za (qu (jt (v:= .ref T.q83) (by rfl) T.q84 rfl) fun _ _ _=>.cls rfl)) zg)))) (ze (za (r_b (FX (Es T).is) (FY rfl) (by rfl) T.q101 Da (ze (zb 4) (ze (za (qu (jt (v:= .ref T.q81) (by rfl) T.q82 rfl) fun _ _ _=>.cls rfl)) zg)))) (ze (za (r_b (FX (Es T).is) (FY rfl) (by rfl) T.q101 Da (ze (zb 4) (ze (za (qu (jt (v:= .ref T.q77) (by rfl) T.q78 rfl) fun _ _ _=>.cls rfl)) zg)))) (ze (za (r_b (FX (Es T).is) (FY rfl) (by rfl) T.q101 Da (ze (zb 4) (ze (za (qu (jt (v:= .ref T.q79) (by rfl) T.q80 rfl) fun _ _ _=>.cls rfl)) zg)))) zg)))))))) J9)) (zn (z0 (zX Jn Iq (zL _) (zb 3) (za js)) (zo (AB (pv 2))) ye) (zo (AB (pv 3)))))))
def P8 (T:Txt K mg):FnOk P w K mg base (XT P w) 1 T.q60 T.q61 ["_law_word"] (zx (kx T) 1 BX):=yE T.q62.F HG fun cdv A outer s H E hr=>by unfold Fp Ht;exact (zn (z0 (PW.pt (AQ (zX FT FC (zL _) (za (yK qh (qe rfl) T.q102 A6 (ze (zb 0) zg))) zk) (BJ (zX DY DP (zL _) (za (yK qh (qe rfl) T.q102 A6 (ze (zb 0) zg))) zk)))) (zo (zT yw)) ye) (zn (jf (OK rfl T.q99 (ze (zb 0) zg)) (ER (n:=2) (E9 rfl (yV (yC 1 HG.nd) (yV (yC 2 HG.nd) CM yT) yT)) (yW (yW CU))) (zo (z0 (PW.pt (CL (zX Hf GH (by with_unfolding_all rfl) (zb 2) (za zy)) (DV (PW.pt (AQ (zX yu (yr (yi hr)) (zL _) (zb 1) zk) (BJ (zX Hf GH (by with_unfolding_all rfl) (zb 2) (za zy)))))))) (zo (zT yw)) ye))) (zo (zT yw))))
def P9 (T:Txt K mg):FnOk P w K mg base (XT P w) 2 T.q63 T.q64 ["_law_text_here","_law_form"] (zx (kx T) 2 Fq):=yE T.q65.F DB fun cdv A outer s H E hr=>by unfold Hv Hu Gq;exact (zn (zU 2 DB.nd (yF zg)) (zn (jf (AC (za (BQ (zb 0) (ze (za zy) zg)))) (yC 3 DB.nd) (zn (zU 4 DB.nd (BQ (zb 3) (ze (za zy) zg))) (zn (z0 (zX CP (CO (yi hr)) (zL _) (za (yK qh (qe rfl) T.q102 A6 (ze (zb 4) zg))) (za (yK qh (qe rfl) T.q102 A6 (ze (zb 1) zg)))) (zo (zT js)) ye) (zn (zU 5 DB.nd (yF zg)) (AR 4 (zn (jf (OT rfl rfl T.q109 (ze (zb 4) (ze (zb 1) zg))) (ER (n:=2) (E9 rfl (yV (yC 6 DB.nd) (yV (yC 7 DB.nd) CM yT) yT)) (yW (yW CU))) (zn (z0 (PW.pt (CL (zX yu (yr (yi hr)) (zL _) (zb 7) (za zy)) (DV (qM (qN (yf Pi (P8 T) hr T.q62 (ze (zb 6) zg))))))) (zo (zT js)) ye) (zn (z0 (PW.pt (CL (zX yu (yr (yi hr)) (zL _) (zb 7) (za zy)) (DV (qM (qN (yf Fg (Fv T) hr T.q14 (ze (zb 6) zg))))))) (zo (zT js)) ye) (zn (z0 (PW.pt (CL (zX yu (yr (yi hr)) (zL _) (zb 7) (za zy)) (CL (zX CP (CO (yi hr)) (zL _) (zb 6) (za zy)) (DV (qM (qN (yf Fg (Fv T) hr T.q14 (ze (zb 6) zg)))))))) (zo (zT js)) ye) (zn (CS CT rfl Ck Cm AM (zb 5) (ze (zb 6) zg)) (zo (z0 (zX CP (CO (yi hr)) (zL _) (zb 7) (za zy)) (zo (GX (zZ BR BP (by rfl) T.q100 Bv (ze (zb 6) zg)) (zb 5) (za (EW zk)) fun a b c=>DO a (GE b c GK))) ye))))))) (zo (CS CT rfl Ck Cm AM (zb 2) (ze (za (zZ Oy (Ox rfl) (by rfl) T.q108 PyProof.Rows.boot_tuple (ze (zb 5) zg))) zg))))))))) (zo (AB (pv 2)))))
def PB (T:Txt K mg):FnOk P w K mg base (XT P w) 2 T.q66 T.q67 ["_law_text_here"] (zx (kx T) 1 Fs):=yE T.q68.F Er fun cdv A outer s H E hr=>by unfold Hx Hw;exact (zn (zU 1 Er.nd (yF zg)) (zn (jf (AC (za (BQ (zb 0) (ze (za zy) zg)))) (yC 2 Er.nd) (zn (GR (J8 (zb 2) (ze (za zy) zg)) (ER (n:=3) (E9 rfl (yV (yC 3 Er.nd) (yV (yC 4 Er.nd) (yV (yC 5 Er.nd) CM yT) yT) yT)) (yW (yW (yW CU)))) DO) (zn (z0 (PW.pt (AQ (qM (qN (yf Fg (Fv T) hr T.q14 (ze (zb 3) zg)))) (AQ (qM (qN (yf Fg (Fv T) hr T.q14 (ze (zb 5) zg)))) (BJ (zX DY DP (zL _) (za (zZ BR BP (by rfl) T.q100 Bv (ze (zb 3) zg))) (za (zZ BR BP (by rfl) T.q100 Bv (ze (zb 5) zg)))))))) (zo (zT js)) ye) (zn (z0 (PW.pt (CL (zX CP (CO (yi hr)) (zL _) (zb 1) (za (yF zg))) (DV (zX EU EC (zL _) (za (zZ BR BP (by rfl) T.q100 Bv (ze (zb 3) zg))) (za (zm zY ya (qq (qq (zb 1) (za (EW zk))) zk) zk)))))) (zo (zT js)) ye) (zo (CS CT rfl Ck Cm AM (zb 1) (ze (za (FP (ze (za (zZ BR BP (by rfl) T.q100 Bv (ze (zb 3) zg))) (ze (za (zZ BR BP (by rfl) T.q100 Bv (ze (zb 5) zg))) zg)))) zg))))))) (zo (AB (pv 1)))))
def PC (T:Txt K mg):FnOk P w K mg base (XT P w) 3 T.q69 T.q70 ["_law_text_here","_law_kind"] (zx (kx T) 2 AH):=yE T.q71.F Pr fun cdv A outer s H E hr=>by unfold El;exact (zn (z0 (zX yu (yr (yi hr)) (zL _) (zb 0) (za zy)) (zo (zT (yF zg))) ye) (zn (z0 (zX yu (yr (yi hr)) (zL _) (zb 1) zk) (zo (zT (yf Pk (PB T) hr T.q68 (ze (zb 0) zg)))) ye) (zo (zT (yf Pj (P9 T) hr T.q65 (ze (zb 0) (ze (qq (za (yF (ze (za zy) (ze (za zy) (ze (za zy) zg))))) (zb 1)) zg)))))))
def Kk (T:Txt K mg):FnOk P w K mg base (XT P w) 8 T.q72 T.q73 ["_law_text_here","_law_kind"] (zx (kx T) 2 jx):=yE T.q74.F HH fun cdv A outer s H E hr=>by unfold Em;exact (zn (zU 2 HH.nd (yf Ph (P7 T) hr T.q59 (ze (zb 0) (ze (zb 1) zg)))) (zn (zU 3 HH.nd (yf Pl (PC T) hr T.q71 (ze (zb 0) (ze (zb 1) zg)))) (zn (z0 (zX Jn Iq (zL _) (zb 3) (za js)) (zo (zT (qY yu (yr (yi hr)) (zL _) (zb 2) (za (yF (ze (za yw) (ze (za yw) (ze (za yw) (ze (za yw) zg))))))))) ye) (zo (zT (qY yu (yr (yi hr)) (zL _) (zb 2) (zb 3)))))))
def G_law (T:Txt K mg):FnOk P w K mg base (XT P w) 9 T.f_law T.fd_law ["_law_script"] (zx (kx T) 1 f_law):=yE T.d_law.F BY fun cdv A outer s H E hr=>by unfold Hz Hy Fu Ft;exact (zn (zU 1 BY.nd (yf OU (Pt T) hr T.q2 (ze (za (yf Ef (Et T) hr T.q5 (ze (zb 0) (ze zk zg)))) (ze (za (zm zY ya zk (za (zm yp ym (za (yf Ef (Et T) hr T.q5 (ze (zb 0) (ze zk zg)))) zk)))) zg)))) (zn (jf (OC rfl T.q106 (ze zk (ze (za (yK NN (LQ rfl) T.q104 PyProof.Rows.boot_max (ze zk (ze (za (yK NO (LR rfl) T.q105 PyProof.Rows.boot_min (ze (za (yK qh (qe rfl) T.q102 A6 (ze (zb 0) zg))) (ze zk zg)))) zg)))) (ze zk zg)))) (yC 2 BY.nd) (zn (zU 3 BY.nd (zm yp ym (za (yf Ef (Et T) hr T.q5 (ze (zb 0) (ze (zb 2) zg)))) zk)) (AR 1 (zn (zU 4 BY.nd (yf OV (Pu T) hr T.q8 (ze (za (yf OY (Px T) hr T.q26 (ze (za (zm qO qG (za (yf Ef (Et T) hr T.q5 (ze (zb 0) (ze (zb 2) zg)))) zk)) (ze (zb 3) (ze (zb 1) zg))))) (ze (zb 3) zg)))) (AR 4 (zn (zU 5 BY.nd (yf OW (Pv T) hr T.q11 (ze (zb 4) (ze (za (yf Ef (Et T) hr T.q5 (ze (zb 0) (ze (za (zm zY ya (zb 2) zk)) zg)))) (ze (za (yf Ef (Et T) hr T.q5 (ze (zb 0) (ze (za (zm zY ya (zb 2) zk)) zg)))) zg))))) (zn (jf (FU rfl T.q106 (ze zk zg)) (yC 6 BY.nd) (AR 4 (AR 5 (zo (z0 (PW.pt (AQ (qM (qN (yf JM (Kk T) hr T.q74 (ze (zb 5) (ze (zb 6) zg))))) (BJ (qM (qN (yf JM (Kk T) hr T.q74 (ze (zb 4) (ze (zb 6) zg)))))))) (zo (zT yw)) ye))))) (zo (jf (AC (za (BQ (zb 5) (ze (za zy) zg)))) (yC 7 BY.nd) (zo (z0 (qM (qN (yf Ho (HI T) hr T.q23 (ze (zb 7) zg)))) (zo (zT yw)) ye))))))))))) (zo (zT (GP (yf Ho (HI T) hr T.q23 (ze (za zy) zg)) (EM (yf Ho (HI T) hr T.q23 (ze (za zy) zg))))))))
end
end My
def PySem.W.Fast.tw14598715356260435866:Nat:=0
def PySem.W.Fast.tw7238046018651277534:Nat:=0
def PySem.W.Fast.tw6534874000650894987:Nat:=0
def PySem.W.Fast.tw10544295344006241723:Nat:=0
def PySem.W.Fast.tw3182386257043530798:Nat:=0
def PySem.W.Fast.tw12329155263669439519:Nat:=0
def PySem.W.Fast.tw3677632882827384062:Nat:=0
def PySem.W.Fast.tw13388153557339397715:Nat:=0
def PySem.W.Fast.tw16205993139258394665:Nat:=0
def PySem.W.Fast.tw12186927737360925045:Nat:=0
def PySem.W.Fast.tw13256641116850012859:Nat:=0
def PySem.W.Fast.tw4069818745696331118:Nat:=0
def PySem.W.Fast.tw12309487429465621764:Nat:=0
def PySem.W.Fast.tw10594365738534580157:Nat:=0
def PySem.W.Fast.tw1319192029097868252:Nat:=0
def PySem.W.Fast.tw10178460254095656201:Nat:=0
def PySem.W.Fast.tw17846797487192150033:Nat:=0
def PySem.W.Fast.tw12196925527506493495:Nat:=0
def PySem.W.Fast.tw8565733149115213228:Nat:=0
def PySem.W.Fast.tw6667695353286145696:Nat:=0
def PySem.W.Fast.tw11488531227469871684:Nat:=0
def PySem.W.Fast.tw5822829993140332335:Nat:=0
def PySem.W.Fast.tw1992449075930466090:Nat:=0
def PySem.W.Fast.tw5262731503136342451:Nat:=0
def PySem.W.Fast.tw5173889594236819067:Nat:=0
def PySem.W.Fast.tw10531621347620151403:Nat:=0
def PySem.W.Fast.tw12411216588197505872:Nat:=0
def PySem.W.Fast.tw17495155262278756735:Nat:=0
def PySem.W.Fast.tw8988036822726370258:Nat:=0
def PySem.W.Fast.tw3510150404263062150:Nat:=0
def PySem.W.Fast.tw17754248650196429969:Nat:=0
def PySem.W.Fast.tw11340729218864233136:Nat:=0
namespace My
open PySem PySem.W L2 L3
def ask:L4.Ask where
 law:=40
 at_:=[2,3,15,22,23,24,25,28,35,36,37,40,47,48,49,52,59,60,61,64,71,72,73,76,79,80,81,84,85,86,88,89,91,92,93,95,96,98,99,100,102,103,105,106,107,109,110,112,113,114,117,118,119,122,123,124,127,128,129,131,132,134,135,136,139,140,141,143,144,146,147,148,150,151,153,154,155,157,158,160,161,162,165,166,167,169,170,172,173,174,176,177,179,180,181,183,184,186,187,188,190,191,193,194,195,197,198,200,201,202,204,205,207,208,209,211,212,214,215,216,218,219,221,222,223,225,226,228,229,230,232,233,235,236,237,239,240,242,243]
 defs:=[("_law_names",27),("_law_cell",26),("_law_text",29),("_law_spoilt",30),("_law_figures",31),("are_figures",15),("number_in",16),("_law_number_right",38),("_law_rows",28),("is_name",10),("name_in",18),("last_in",17),("job_in",23),("rows_in",21),("load_in",24),("span_in",19),("spans_in",20),("plan_in",22),("_law_asked",36),("_law_told",37),("_law_name",32),("_law_listed",34),("_law_spans",33),("_law_due",35),("_law_right",39),("law",40)]
 cls:=[]
 bare:=["all","any","enumerate","int","isinstance","len","list","max","min","range","str","tuple","zip"]
 con:=[("LETTERS",.str ("abcdefghijklmnopqrstuvwxyz" :Str)),("LETTERS_AND_FIGURES",.str ("abcdefghijklmnopqrstuvwxyz0123456789" :Str)),("MOST_SIGNS",.int 8),("FIGURES",.str ("0123456789" :Str)),("MOST_FIGURES",.int 11),("NOTHING",.str ("-" :Str))]
 exc:=[("YardError",false),("NoName",false),("NoNumber",false),("NoSpans",false),("NoLine",true)]
 tab:=[("NoLine","YardError",true),("NoLine","NoLine",true),("NoLine","NoSpans",false),("NoLine","NoName",false),("NoLine","NoNumber",false)]
end My
lay_quick L4.claim L4.goal
open PySem PySem.W in
def My.one1:∀(w:World) (os:OsState),PySem.W.Fast.tw6268680626415656479 My.ask 20000 PySem.Challenge.pw_dueyard_k82_texts_refused w os=PySem.W.Fast.tw12952061662341455360 My.ask PySem.Challenge.pw_dueyard_k82_texts_refused:=by
 intro w os
 kernel_rfl
open PySem PySem.W in
def My.one:∀(w:World) (os:OsState),L4.claim My.ask 20000 PySem.Challenge.pw_dueyard_k82_texts_refused w os=L4.goal My.ask PySem.Challenge.pw_dueyard_k82_texts_refused:=by
 rw[PySem.W.Fast.te6268680626415656479,PySem.W.Fast.te12952061662341455360];exact My.one1
namespace L3
open PySem L2
def ev:type_of% (zc (zc (zc (zc (zc (zc @L3.fun3.eq_1 (zc @L3.start3.eq_1 @L3.sSeq.eq_1)) (zc (zc @L3.sSet.eq_1 @L3.sRet.eq_1) (zc @L3.sRetS.eq_1 @L3.sRetN.eq_1))) (zc (zc (zc @L3.sIf.eq_1 @L3.sExp.eq_1) (zc @L3.sFz.eq_1 @L3.sAug.eq_1)) (zc (zc @L3.sAsg.eq_1 @L3.sSkip.eq_1) (zc @L3.sNever.eq_1 @L3.gN.eq_1)))) (zc (zc (zc @L3.eV.eq_1 (zc @L3.eC.eq_1 @L3.pV.eq_1)) (zc (zc @L3.pE.eq_1 @L3.eOp.eq_1) (zc @L3.eNeg.eq_1 @L3.eNot.eq_1))) (zc (zc (zc @L3.eAnd.eq_1 @L3.eOr.eq_1) (zc @L3.eIf.eq_1 @L3.eChain.eq_1)) (zc (zc @L3.oEq_int @L3.oNe_int) (zc @L3.nx_ite @L3.rt_ite))))) (zc (zc (zc (zc @L3.ok_ite (zc @L3.cons_ite @L3.some_ite)) (zc (zc @L3.v_ite @L3.int_ite) (zc @L3.bl_ite @ite_self.{1}))) (zc (zc (zc @B9 @and_true) (zc @true_and @and_self)) (zc (zc @L3.eTup.eq_1 @L3.eLst.eq_1) (zc @L3.aCons.eq_1 @L3.aNil.eq_1)))) (zc (zc (zc (zc @L3.eB.eq_1 @L3.isa.eq_1) (zc @L3.eCall.eq_1 @L3.tE.eq_1)) (zc (zc @L3.tP.eq_1 @L3.tTru.eq_1) (zc @L3.tAnd3.eq_1 @L3.tOr3.eq_1))) (zc (zc (zc @L3.tNot3.eq_1 @L3.mtO.eq_1) (zc @L3.at0 @L3.at1)) (zc (zc @L3.at2 @L3.at3) (zc @L3.at4 @Ax.{0,0})))))) (zc (zc (zc (zc (zc @Bq.{0,0} (zc @A9.{0} @Cn.{0})) (zc (zc @List.cons_append.{0} @Cq.{0}) (zc @B1.{0} @Dn.{0}))) (zc (zc (zc @Dp.{0} @List.getElem?_nil.{0}) (zc @Dt.{0} @Du.{0})) (zc (zc @A5.{0,0} @Option.map_none.{0,0}) (zc @Do.{0,0} @Nat.zero_add)))) (zc (zc (zc @ite_true.{1} (zc @ite_false.{1} @Bb.{1})) (zc (zc @Bo.{1} @Bool.not_true) (zc @Bool.not_false @decide_true))) (zc (zc (zc @decide_false @Bool.true_and) (zc @Dg @Bool.or_true)) (zc (zc @C5 @Bool.true_or) (zc @Bool.false_or @Dj.{0}))))) (zc (zc (zc (zc @or_true (zc @true_or @Az)) (zc (zc @false_or @L3.oAdd_int) (zc @L3.oAddI_int @L3.oSub_int))) (zc (zc (zc @L3.oMul_int @L3.oDiv_int) (zc @L3.oMod_int @L3.oShr_int)) (zc (zc @L3.oPow_int @L3.oAndI_int) (zc @L3.oLt_int @L3.oLe_int)))) (zc (zc (zc (zc @L3.oGt_int @L3.oGe_int) (zc @L3.oIx_tup @L3.oIx_lst)) (zc (zc @L3.oIx_scr @L3.sMt_ap) (zc @L3.mAppend_ok @L3.sz0))) (zc (zc (zc @L3.sz1 @L3.sz2) (zc @L3.sz3 @L3.sz4)) (zc (zc @L3.sz5 @L3.gb.eq_1) (zc @Int.cast_ofNat_Int @Cr))))))):=(zc (zc (zc (zc (zc (zc @L3.fun3.eq_1 (zc @L3.start3.eq_1 @L3.sSeq.eq_1)) (zc (zc @L3.sSet.eq_1 @L3.sRet.eq_1) (zc @L3.sRetS.eq_1 @L3.sRetN.eq_1))) (zc (zc (zc @L3.sIf.eq_1 @L3.sExp.eq_1) (zc @L3.sFz.eq_1 @L3.sAug.eq_1)) (zc (zc @L3.sAsg.eq_1 @L3.sSkip.eq_1) (zc @L3.sNever.eq_1 @L3.gN.eq_1)))) (zc (zc (zc @L3.eV.eq_1 (zc @L3.eC.eq_1 @L3.pV.eq_1)) (zc (zc @L3.pE.eq_1 @L3.eOp.eq_1) (zc @L3.eNeg.eq_1 @L3.eNot.eq_1))) (zc (zc (zc @L3.eAnd.eq_1 @L3.eOr.eq_1) (zc @L3.eIf.eq_1 @L3.eChain.eq_1)) (zc (zc @L3.oEq_int @L3.oNe_int) (zc @L3.nx_ite @L3.rt_ite))))) (zc (zc (zc (zc @L3.ok_ite (zc @L3.cons_ite @L3.some_ite)) (zc (zc @L3.v_ite @L3.int_ite) (zc @L3.bl_ite @ite_self.{1}))) (zc (zc (zc @B9 @and_true) (zc @true_and @and_self)) (zc (zc @L3.eTup.eq_1 @L3.eLst.eq_1) (zc @L3.aCons.eq_1 @L3.aNil.eq_1)))) (zc (zc (zc (zc @L3.eB.eq_1 @L3.isa.eq_1) (zc @L3.eCall.eq_1 @L3.tE.eq_1)) (zc (zc @L3.tP.eq_1 @L3.tTru.eq_1) (zc @L3.tAnd3.eq_1 @L3.tOr3.eq_1))) (zc (zc (zc @L3.tNot3.eq_1 @L3.mtO.eq_1) (zc @L3.at0 @L3.at1)) (zc (zc @L3.at2 @L3.at3) (zc @L3.at4 @Ax.{0,0})))))) (zc (zc (zc (zc (zc @Bq.{0,0} (zc @A9.{0} @Cn.{0})) (zc (zc @List.cons_append.{0} @Cq.{0}) (zc @B1.{0} @Dn.{0}))) (zc (zc (zc @Dp.{0} @List.getElem?_nil.{0}) (zc @Dt.{0} @Du.{0})) (zc (zc @A5.{0,0} @Option.map_none.{0,0}) (zc @Do.{0,0} @Nat.zero_add)))) (zc (zc (zc @ite_true.{1} (zc @ite_false.{1} @Bb.{1})) (zc (zc @Bo.{1} @Bool.not_true) (zc @Bool.not_false @decide_true))) (zc (zc (zc @decide_false @Bool.true_and) (zc @Dg @Bool.or_true)) (zc (zc @C5 @Bool.true_or) (zc @Bool.false_or @Dj.{0}))))) (zc (zc (zc (zc @or_true (zc @true_or @Az)) (zc (zc @false_or @L3.oAdd_int) (zc @L3.oAddI_int @L3.oSub_int))) (zc (zc (zc @L3.oMul_int @L3.oDiv_int) (zc @L3.oMod_int @L3.oShr_int)) (zc (zc @L3.oPow_int @L3.oAndI_int) (zc @L3.oLt_int @L3.oLe_int)))) (zc (zc (zc (zc @L3.oGt_int @L3.oGe_int) (zc @L3.oIx_tup @L3.oIx_lst)) (zc (zc @L3.oIx_scr @L3.sMt_ap) (zc @L3.mAppend_ok @L3.sz0))) (zc (zc (zc @L3.sz1 @L3.sz2) (zc @L3.sz3 @L3.sz4)) (zc (zc @L3.sz5 @L3.gb.eq_1) (zc @Int.cast_ofNat_Int @Cr)))))))
end L3
local macro_rules | `(tactic| simp![$xs,*] $[$l]?)=> `(tactic| simp only[L3.kJ,L3.fun3,L3.start3,L3.O3.res,L3.sSeq,L3.sSet,L3.sRet,L3.sRetS,L3.sRetN,L3.sIf,L3.sExp,L3.sFz,L3.sAug,L3.sAsg,L3.sSkip,L3.sNever,L3.gN,L3.gT,L3.gL,L3.gsCons,L3.gsNil,L3.eV,L3.eC,L3.pV,L3.pE,L3.eOp,L3.eNeg,L3.eNot,L3.eAnd,L3.eOr,L3.eIf,L3.eChain,L3.oEq_int,L3.oNe_int,L3.nx_ite,L3.rt_ite,L3.ok_ite,L3.cons_ite,L3.some_ite,L3.v_ite,L3.int_ite,L3.bl_ite,ite_self,B9,and_true,true_and,and_self,L3.oIsN,L3.eTup,L3.eLst,L3.aCons,L3.aNil,L3.vals3,L3.eB,L3.bLen,L3.bMax,L3.bMin,L3.bMin3,L3.bInt,L3.bList,L3.bIsT,L3.ty3,L3.isa,L3.eCall,L3.opt,L3.Res.bind,L3.Res.bindS,L3.Vl.fz,L3.C3.fz,L3.tE,L3.tP,L3.tru3,L3.tTru,L3.tAnd3,L3.tOr3,L3.tNot3,L3.rdl,L3.rdm,L3.mtO,L3.wr3,L3.at0,L3.at1,L3.at2,L3.at3,L3.at4,Ax,Bq,A9,Cn,List.replicate,List.cons_append,Cq,B1,Dn,Dp,List.getElem?_nil,Dt,Du,A5,Option.map_none,Do,Nat.reduceSub,Nat.reduceAdd,Nat.reduceLT,Nat.reduceEqDiff,Nat.reduceLeDiff,Nat.zero_add,reduceIte,ite_true,ite_false,Bb,Bo,Bool.not_true,Bool.not_false,decide_true,decide_false,Bool.true_and,Dg,Bool.or_true,C5,Bool.true_or,Bool.false_or,Dj,String.reduceEq,String.reduceBEq,or_true,true_or,Az,false_or,reduceCtorEq,Int.reduceLT,Int.reduceLE,Int.reduceNeg,L3.oAdd_int,L3.oAddI_int,L3.oSub_int,L3.oMul_int,L3.oDiv_int,L3.oMod_int,L3.oShr_int,L3.oPow_int,L3.oAndI_int,L3.oLt_int,L3.oLe_int,L3.oGt_int,L3.oGe_int,L3.oIx_tup,L3.oIx_lst,L3.oIx_scr,L3.sMt_ap,L3.mAppend_ok,L3.sz0,L3.sz1,L3.sz2,L3.sz3,L3.sz4,L3.sz5,L3.gb,Int.cast_ofNat_Int,Int.reduceEq,Cr,$xs,*] $[$l]?)
namespace L3
open PySem L2
def tx (l:List Nat):Str:=⟨l.toArray⟩
def zP (l:List Nat):(tx l).length=l.length:=by simp[tx,Str.length]
def BZ (l:List Nat):(tx l).cps.toList=l:=by simp[tx]
def zjh (z:Str):tx z.cps.toList=z:=by simp[tx]
def Eu {a b:List Nat} (h:tx a=tx b):a=b:=by have:=congrArg (fun z:Str=>z.cps.toList) h;simpa[tx] using this
def DC (a b:List Nat):tx a++tx b=tx (a++b):=by
 show Str.append (tx a) (tx b)=_;simp[Str.append,tx]
def Kl (x:Str) {l u:Option Int} {a b:Nat} (e:Builtin.Str.strSliceIndices l u 1 x.length=Builtin.Str.strSliceIndices (some (a:Int)) (some (b:Int)) 1 x.length) (hab:a<=b) (hb:b<=x.length):
  Txt.slice x l u=tx ((x.cps.toList.drop a).take (b-a)):=by
 unfold Txt.slice;rw[e,StrLaws.sliced_plain x hab hb]
 split
 .rename_i q
  rw[StrLaws.strSliceIndices_plain hab hb]at q;simp at q;have h1:a=0:=by lia
  have h2:b=x.length:=by lia
  subst h1;subst h2;rw[Dv,Nat.sub_zero,List.take_of_length_le (by simp[Str.length])]
  exact (zjh x).symm
 .rfl
def PD (l:List Nat) (k:Nat):Txt.slice (tx l) none (some (k:Int))=tx (l.take k):=by
 have e:Builtin.Str.strSliceIndices none (some (k:Int)) 1 (tx l).length=Builtin.Str.strSliceIndices (some ((0:Nat):Int)) (some ((min k l.length:Nat):Int)) 1 (tx l).length:=by
  rw[zP];have h1: ¬((k:Int)<0):=by lia
  have h2: ¬(((min k l.length:Nat):Int)<0):=by lia
  have h3: ¬(((0:Nat):Int)<0):=by lia
  simp only[Builtin.Str.strSliceIndices,h1,h2,h3,Bo,show ((1:Int) > 0)=True from by simp,Bb]
  congr 1<;>lia
 rw[Kl _ e (Bk _) (by rw[zP];lia),BZ,Dv,Nat.sub_zero]
 congr 1
 rw[List.take_eq_take_iff];lia
def PF (l:List Nat) (k:Nat):Txt.slice (tx l) (some (k:Int)) none=tx (l.drop k):=by
 have e:Builtin.Str.strSliceIndices (some (k:Int)) none 1 (tx l).length=Builtin.Str.strSliceIndices (some ((min k l.length:Nat):Int)) (some ((l.length:Nat):Int)) 1 (tx l).length:=by
  rw[zP];have h1: ¬((k:Int)<0):=by lia
  have h2: ¬(((min k l.length:Nat):Int)<0):=by lia
  have h3: ¬(((l.length:Nat):Int)<0):=by lia
  simp only[Builtin.Str.strSliceIndices,h1,h2,h3,Bo,show ((1:Int) > 0)=True from by simp,Bb]
  congr 1<;>lia
 rw[Kl _ e (by lia) (by rw[zP];lia),BZ]
 congr 1
 by_cases hk:k<=l.length
 .rw[Nat.min_eq_left hk,List.take_of_length_le (by simp)]
 .rw[Nat.min_eq_right (by lia),B4,List.drop_eq_nil_of_le (by lia)];simp
def small (c:Nat):Bool:=decide (97<=c) && decide (c<=122)
def yO (c:Nat):Bool:=decide (48<=c) && decide (c<=57)
def abc:List Nat:=[97,98,99,100,101,102,103,104,105,106,107,108,109,110,111,112,113,114,115,116,117,118,119,120,121,122]
def abc9:List Nat:=abc++[48,49,50,51,52,53,54,55,56,57]
def DD:("abcdefghijklmnopqrstuvwxyz" :Str)=tx abc:=by decide+kernel
def PH:("abcdefghijklmnopqrstuvwxyz0123456789" :Str)=tx abc9:=by decide+kernel
def PJ:("" :Str)=tx []:=by decide+kernel
def Ew (c:Nat):decide (c∈abc)=small c:=by
 by_cases h:c<128
 .exact (by decide+kernel:∀c,c<128->decide (c∈abc)=small c) c h
 .rw[Aj fun m=>h ((by decide+kernel:∀x∈abc,x<128) c m)]
  unfold small;rw[Aj (p:=c<=122) (by lia),Ca]
def PK (c:Nat):decide (c∈abc9)=(small c || yO c):=by
 by_cases h:c<128
 .exact (by decide+kernel:∀c,c<128->decide (c∈abc9)=(small c || yO c)) c h
 .rw[Aj fun m=>h ((by decide+kernel:∀x∈abc9,x<128) c m)]
  unfold small yO;rw[Aj (p:=c<=122) (by lia),Aj (p:=c<=57) (by lia),Ca,Ca,C5]
def Fw {s:S3} {h:H3} {c:Nat} {l:List Nat}:yy false s h (.x (.str (tx [c]))) (.x (.str (tx l)))=some (.v (.bl (decide (c∈l)))):=by
 unfold yy;simp only[Cr,Bo];rw[show (tx [c])=⟨#[c]⟩ from rfl,Nz,BZ]
def DE {s:S3} {h:H3} {l:List Nat} {i:Int} (hl:l.length<=sizeLine):zJ s h (.x (.str (tx l))) (.x (.int i))=(atI l i).map fun c=>.v (.str (tx [c])):=by
 unfold zJ qs oIxT oIxL oIxS;simp only[rdl,zP,BZ,Aa hl];cases atI l i<;>rfl
def PL {s:S3} {h:H3} {a b:List Nat} (hl:a.length+b.length<=sizeLine):zf s h (.x (.str (tx a))) (.x (.str (tx b)))=some (.v (.str (tx (a++b)))):=by
 unfold zf qs DX oI DZ;simp only[zP,Aa hl,DC]
def PM {s:S3} {h:H3} {l:List Nat} {k:Nat} (hl:l.length<=sizeLine):oSl s h none (some (k:Int)) (.x (.str (tx l)))=some (.v (.str (tx (l.take k)))):=by
 simp only[oSl,zP,Aa hl,PD]
def PN {s:S3} {h:H3} {l:List Nat} {k:Nat} (hl:l.length<=sizeLine):oSl s h (some (k:Int)) none (.x (.str (tx l)))=some (.v (.str (tx (l.drop k)))):=by
 simp only[oSl,zP,Aa hl,PF]
def yX (l:List Nat):Bool:=decide (1<=l.length) && decide (l.length<=8) && (small (l.headD 0) && l.all fun c=>small c || yO c)
end L3
namespace L3
open PySem PySem.Spec PyProof.Rows
open PySem.Builtin.Str (occurrences strSub subAt partsBetween)
open PySem.StrLaws (At ChainG partsFrom)
def jn (s:List Nat):List (List Nat)->List Nat
 | []=>[]
 | [l]=>l
 |l::r=>l++s++jn s r
def HJ {s l:List Nat} {r:List (List Nat)} (h:r≠[]):jn s (l::r)=l++s++jn s r:=by
 cases r with
 |nil=>exact absurd rfl h
 |cons a b=>rfl
def HK (s:List Nat) (ls:List (List Nat)):PySem.Txt.join (tx s) (ls.map tx)=tx (jn s ls):=by
 show Builtin.Str.glued (tx s) (ls.map tx)=_;rw[PySem.StrLaws.glued_eq_join]
 induction ls with
 |nil=>rfl
 |cons l r ih=>
  cases r with
  |nil=>rfl
  |cons a b=>
   rw[HJ (by simp)]
   show tx l++tx s++Str.join (tx s) ((a::b).map tx)=_;rw[ih,DC,DC]
def PP (x:List Nat) (i j:Nat):strSub (tx x) i j=tx ((x.drop i).take (j-i)):=by
 show (⟨(x.toArray).extract i j⟩:Str)=⟨_⟩
 congr 1
 simp[List.extract_eq_drop_take]
def dg (m:Nat):List Nat:=(Nat.toDigits 10 m).map Char.toNat
def PQ (m:Nat):Str.ofString (toString ((m:Nat):Int))=tx (dg m):=by
 rw[<-zjh (Str.ofString (toString ((m:Nat):Int))),PySem.W.KIN.signs_num];rfl
def Gu {m:Nat} (h:m<10):dg m=[48+m]:=by
 unfold dg;rw[Nat.toDigits_of_lt_base h];have:∀d:Nat,d<10->[Nat.digitChar d].map Char.toNat=[48+d]:=by decide
 exact this m h
def Km {m:Nat} (h:10<=m):dg m=dg (m / 10)++[48+m%10]:=by
 have hm:m%10<10:=Nat.mod_lt m (by decide)
 have t:Nat.toDigits 10 (m / 10)++Nat.toDigits 10 (m%10)=Nat.toDigits 10 (10*(m / 10)+m%10):=Nat.toDigits_append_toDigits (by decide) (by lia) hm
 rw[Nat.div_add_mod]at t;show (Nat.toDigits 10 m).map Char.toNat=_;rw[<-t,B5];show dg (m / 10)++dg (m%10)=_;rw[Gu hm]
def PR (m:Nat):(∀c∈dg m,48<=c/\c<=57)/\(∃a r,dg m=a::r/\(a=48->m=0)):=by
 induction m using Nat.strongRecOn with
 |_ m ih=>
  by_cases h:m<10
  .rw[Gu h]
   exact⟨fun c hc=>by rw[Ay]at hc;lia,48+m,[],rfl,fun e=>by lia⟩
  .obtain⟨h1,a,r,e,h2⟩:=ih (m / 10) (by lia)
   rw[Km (by lia)]
   refine⟨fun c hc=>?_,a,r++[48+m%10],by rw[e];rfl,fun q=>by have:=h2 q;lia⟩
   rcases A0.mp hc with hc|hc
   .exact h1 c hc
   .rw[Ay]at hc;lia
theorem HL:∀(k m:Nat),m<10 ^ (k+1)->(dg m).length<=k+1
 |0,m,h=>by rw[Gu (by lia)];exact Af _
 |k+1,m,h=>by
  by_cases q:m<10
  .rw[Gu q];simp
  .rw[Km (by lia),Am]
   have:=HL k (m / 10) (by rw[Nat.pow_succ]at h;lia)
   simp;lia
def PU:Str.ofString (toString (-1:Int))=tx [45,49]:=by decide+kernel
end L3
namespace L3
open PySem L2
def HM {α:Type} {n:Nat} {fr:List Nat} {p:P3} {g:G3} {e:E3} {s:S3} {h:H3} {x:V3} {ok:H3->Prop} {enc:α->V3} {l:List α} (I:S3->Prop) (f:α->V3) (ep:p s h=.ok (.x x) h)
  (hw:qr h x=some (l.map enc,ok)) (hl:l.length<=1000000) (h0:I (yc n fr s)) (step:∀a s,a∈l->I s->∃s1 r,g (enc a) s=some s1/\I s1/\e s1 h=.ok r h/\r.fz=some (f a)):
  ji n fr (iL p) g tTru e s h=.ok (.m (.lst (l.map f))) h:=by
 have:=J5 (ok:=ok) (g:=g) (e:=e) (h:=h) I enc f (ES hw).1 (l:=l) (by have:=zW;lia) step h0
 unfold ji iL;simp only[ep,Res.bind,hw,this]
def Kn {n:Nat} {fr:List Nat} {p:P3} {g:G3} {e:E3} {s:S3} {h:H3} {l:List Nat} (I:S3->Prop) (f:Nat->V3) (ep:p s h=.ok (.x (.str (tx l))) h) (hl:l.length<=1000000)
  (h0:I (yc n fr s)) (step:∀a s,a∈l->I s->∃s1 r,g (.str (tx [a])) s=some s1/\I s1/\e s1 h=.ok r h/\r.fz=some (f a)):
  ji n fr (iS p) g tTru e s h=.ok (.m (.lst (l.map f))) h:=by
 have:=J5 (ok:=fun _=>True) (g:=g) (e:=e) (h:=h) I (fun a:Nat=>V3.str (tx [a])) f trivial (l:=l) (by have:=zW;lia) step h0
 have hl2:(tx l).length<=sizeLine:=by rw[zP];have:=zW;lia
 unfold ji iS;simp only[ep,Res.bind,Aa hl2,BZ]
 first
  | (simp only[show ∀a:Nat,(⟨#[a]⟩:Str)=tx [a] from fun _=>rfl,this])
  | (rw[show (l.map fun c=>V3.str ⟨#[c]⟩)=l.map (fun a=>V3.str (tx [a])) from rfl,this])
def HN {s:S3} {h:H3} {q:List Bool->Bool} {bs:List Bool}:bAll q s h [.x (.lst (bs.map .bl))]=some (.v (.bl (q bs))):=by
 unfold bAll;simp only[rdl,Oc,A5]
def PV {ok:H3->Prop} {g:G3} {b:D3} (I:Nat->S3->H3->Prop) {xs:List V3} {s:S3} {h:H3} (hok:∀i s h,I i s h->ok h) (h0:I 0 s h)
  (step:∀(i:Nat) x s h,xs[i]? =some x->I i s h->∃s1 s2 h2,g x s=some s1/\b s1 h=.nx s2 h2/\I (i+1) s2 h2):∃s' h',zA ok g b xs s h=.nx s' h'/\I xs.length s' h':=by
 have gen:∀(n i:Nat) (s:S3) (h:H3),n=xs.length-i->i<=xs.length->I i s h->∃s' h',zA ok g b (xs.drop i) s h=.nx s' h'/\I xs.length s' h':=by
  intro n
  induction n with
  |zero=>
   intro i s h hn hi hI;have:i=xs.length:=by lia
   subst this;rw[B4];unfold zA;rw[Aa (hok _ _ _ hI)];exact⟨s,h,rfl,hI⟩
  |succ n ih=>
   intro i s h hn hi hI;have hlt:i<xs.length:=by lia
   rw[Ct hlt];unfold zA;rw[Aa (hok _ _ _ hI)];obtain⟨s1,s2,h2,hg,hb,hI2⟩:=step i xs[i] s h (yq hlt) hI;simp only[hg,hb];exact ih (i+1) s2 h2 (by lia) hlt hI2
 exact gen _ 0 s h rfl (Bk _) h0
def Gv {α:Type} {it:I3} {g:G3} {b:D3} {s:S3} {h:H3} {its:List V3} {ok:H3->Prop} {enc:α->V3} {l:List α} (ei:it s h=.ok ⟨its,l.map enc,ok⟩ h)
  (I:Nat->S3->H3->Prop) (hok:∀i s h,I i s h->ok h) (h0:I 0 s h) (step:∀(i:Nat) a s h,l[i]? =some a->I i s h->∃s2 h2,gb g b (enc a) s h=.nx s2 h2/\I (i+1) s2 h2):∃s' h',zw it g b s h=.nx s' h'/\I l.length s' h':=by
 have hf:zw it g b s h=zA ok g b (l.map enc) s h:=by
  unfold zw;simp only[ei,Res.bindS]
 rw[hf];have:=PV (ok:=ok) (g:=g) (b:=b) I (xs:=l.map enc) (s:=s) (h:=h) hok h0 fun i x s h hx hI=>by
  rw[A2]at hx;obtain⟨a,ha,rfl⟩:=D5.1 hx;obtain⟨s2,h2,e,hI2⟩:=step i a s h ha hI;unfold gb at e;cases q:g (enc a) s with
  |none=>rw[q]at e;cases e
  |some s1=>rw[q]at e;exact⟨s1,s2,h2,rfl,e,hI2⟩
 rwa [Ah]at this
def PX {Q:Res Vl->Prop} {α:Type} {it:I3} {g:G3} {b r:D3} {s:S3} {h:H3} {its:List V3} {ok:H3->Prop} {enc:α->V3} {l:List α} (ei:it s h=.ok ⟨its,l.map enc,ok⟩ h)
  (I:Nat->S3->H3->Prop) (hok:∀i s h,I i s h->ok h) (h0:I 0 s h) (step:∀(i:Nat) a s h,l[i]? =some a->I i s h->∃s2 h2,gb g b (enc a) s h=.nx s2 h2/\I (i+1) s2 h2) (k:∀s' h',I l.length s' h'->Q ((r s' h').res)):Q ((sSeq (zw it g b) r s h).res):=by
 obtain⟨s',h',e,hI⟩:=Gv ei I hok h0 step;rw[AS e];exact k s' h' hI
def Ko {a:A3} {s:S3} {h:H3} {j:Int} (ea:a s h=.ok [.x (.int j)] h) (hj: -(2 ^ 62)<=j/\j<2 ^ 62):qC a s h=.ok ⟨[],(List.range j.toNat).map fun k=>.int ((k:Nat):Int),fun _=>True⟩ h:=by
 unfold qC;simp only[ea,Res.bind,Aa hj,Int.zero_add]
def HP {s:S3} {h:H3} {i:Nat} {j:Int}:zJ s h (.s i) (.x (.int j))=match s[i]? with
  |some (some (.m (.lst xs)))=>(atI xs j).map .v
  |_=>none:=by
 unfold zJ qs oIxT oIxL oIxS;simp only[rdl];generalize s[i]? =o
 match o with
 |none=>rfl
 |some none=>rfl
 |some (some (.v _))=>rfl
 |some (some (.m (.lst xs)))=>simp only[];cases atI xs j<;>rfl
 |some (some (.m (.dK _)))=>rfl
 |some (some (.m (.dT _)))=>rfl
 |some (some (.m (.ins _ _)))=>rfl
 |some (some (.m .dead))=>rfl
def isEmpty_map {α β:Type} {l:List α} {f:α->β}:(l.map f).isEmpty=l.isEmpty:=by cases l<;>rfl
def HQ {α:Type} {l:List α} {i:Nat} {a:α} (h:l[i]? =some a):l.drop i=a::l.drop (i+1):=by
 obtain⟨hi,rfl⟩:=As.1 h;exact Ct hi
theorem HR {f:V3->V3->Option Bool}:∀{xs:List V3},(∀x∈xs,f x x=some true)->qc f xs xs=some true
 | [],_=>rfl
 |x::r,h=>by simp only[qc,h x An,HR (xs:=r) fun y hy=>h y (Av _ hy),Bool.and_self]
def PY {s:S3} {h:H3} {f g:Rf} {xs:List V3} (hf:rdm s h f=some xs) (hg:rdm s h g=some xs) (hx:∀x∈xs,yv h 8 x x=some true):qA s h f g=some true:=by
 unfold qA;rw[hf,hg];simp only[Bb,HR hx]
def Gw {s:S3} {h:H3} {f g:Rf} {xs:List V3} (hf:rdm s h f=some xs) (hg:rdm s h g=some xs) (hx:∀x∈xs,yv h 8 x x=some true):zD s h f g=some (.v (.bl true)):=by
 unfold zD;rw[PY hf hg hx];rfl
def PZ {h:H3} {n:Nat} {xs:List V3} (hx:∀x∈xs,yv h n x x=some true):yv h (n+1) (.tup xs) (.tup xs)=some true:=by
 simp only[yv,qj];rw[HR hx];simp
def yD {s:S3} {h:H3} {i j:Str}:zD s h (.x (.str i)) (.x (.str j))=some (.v (.bl (decide (i=j)))):=by
 unfold zD qA;simp only[rdm,rdl,Hc,A5]
def AI {s:S3} {h:H3} {i j:Str}:qf s h (.x (.str i)) (.x (.str j))=some (.v (.bl (!decide (i=j)))):=by
 unfold qf qA;simp only[rdm,rdl,Hc,A5]
def Kp {s:S3} {h:H3} {f:Rf} {xs:List V3} (hf:rdm s h f=some xs):qA s h f (.x (.lst []))=some xs.isEmpty:=by
 unfold qA;rw[hf];simp only[rdm,rdl];cases xs<;>rfl
def Kq {s:S3} {h:H3} {f:Rf} {xs:List V3} (hf:rdm s h f=some xs):zD s h f (.x (.lst []))=some (.v (.bl xs.isEmpty)):=by unfold zD;rw[Kp hf];rfl
def Qa {s:S3} {h:H3} {f:Rf} {xs:List V3} (hf:rdm s h f=some xs):qf s h f (.x (.lst []))=some (.v (.bl !xs.isEmpty)):=by unfold qf;rw[Kp hf];rfl
def ch (i:Int):Nat:=abc9.getD i.toNat 0
def Qb {i:Int} (h0:0<=i) (h1:i<36):atI abc9 i=some (ch i):=by
 obtain⟨n,rfl⟩:=Cb h0;have hn:n<abc9.length:=by show n<36;lia
 refine jm (j:=n) ?_
 rw[yq hn];unfold ch;rw[Cj,Dw,yq hn];rfl
def Qc {i:Int} (h0:0<=i) (h1:i<26):atI abc i=some (ch i):=by
 obtain⟨n,rfl⟩:=Cb h0;have hn:n<abc.length:=by show n<26;lia
 have hn9:n<abc9.length:=by show n<36;lia
 refine jm (j:=n) ?_
 unfold ch;rw[Cj,Dw];unfold abc9;rw[A8 hn,yq hn];rfl
def Qd (x:Int):atI abc9 (x%36)=some (ch (x%36)):=Qb (by lia) (by lia)
def Qe (x:Int):atI abc (x%26)=some (ch (x%26)):=Qc (by lia) (by lia)
def Kr:∀n:Nat,n<36->(small (ch n) || yO (ch n))=true:=by decide
def Qf:∀n:Nat,n<26->small (ch n)=true:=by decide
def Qg {Q:Res Vl->Prop} {ok:H3->Prop} {g:G3} {b r:D3} {α:Type} {enc:α->V3} {l:List α} (I:Nat->S3->H3->Prop) (hok:∀i s h,I i s h->ok h)
  (step:∀(i:Nat) a s h,l[i]? =some a->I i s h->(∃s2 h2,(gb g b (enc a) s h=.nx s2 h2\/gb g b (enc a) s h=.ct s2 h2)/\I (i+1) s2 h2)\/(∃v h2,gb g b (enc a) s h=.rt v h2/\Q (.ok v h2))\/∃s2 h2,gb g b (enc a) s h=.bk s2 h2/\Q ((r s2 h2).res))
  (k:∀s' h',I l.length s' h'->Q ((r s' h').res)):∀(n i:Nat) (s:S3) (h:H3),l.length-i=n->i<=l.length->I i s h->Q ((match zA ok g b ((l.drop i).map enc) s h with | .nx s h=>r s h|o=>o).res):=by
 intro n
 induction n with
 |zero=>
  intro i s h hn hi hI;have e:i=l.length:=by lia
  subst e;rw[B4,Bq];unfold zA;rw[Aa (hok _ _ _ hI)];exact k s h hI
 |succ n ih=>
  intro i s h hn hi hI;have hil:i<l.length:=by lia
  rw[HQ (yq hil),Ax];unfold zA;rw[Aa (hok _ _ _ hI)];have st:=step i l[i] s h (yq hil) hI;unfold gb at st;cases q:g (enc l[i]) s with
  |none=>simp only[q]at st;rcases st with ⟨_,_,z|z,_⟩|⟨_,_,z,_⟩|⟨_,_,z,_⟩<;>cases z
  |some s1=>
   simp only[q]at st ⊢
   rcases st with ⟨s2,h2,z|z,hI2⟩|⟨v,h2,z,hq⟩|⟨s2,h2,z,hq⟩
   .rw[z];exact ih (i+1) s2 h2 (by lia) hil hI2
   .rw[z];exact ih (i+1) s2 h2 (by lia) hil hI2
   .rw[z];exact hq
   .rw[z];exact hq
def it_E {Q:Res Vl->Prop} {α:Type} {it:I3} {g:G3} {b r:D3} {s:S3} {h:H3} {its:List V3} {ok:H3->Prop} {enc:α->V3} {l:List α} (ei:it s h=.ok ⟨its,l.map enc,ok⟩ h)
  (I:Nat->S3->H3->Prop) (hok:∀i s h,I i s h->ok h) (h0:I 0 s h)
  (step:∀(i:Nat) a s h,l[i]? =some a->I i s h->(∃s2 h2,(gb g b (enc a) s h=.nx s2 h2\/gb g b (enc a) s h=.ct s2 h2)/\I (i+1) s2 h2)\/(∃v h2,gb g b (enc a) s h=.rt v h2/\Q (.ok v h2))\/∃s2 h2,gb g b (enc a) s h=.bk s2 h2/\Q ((r s2 h2).res))
  (k:∀s' h',I l.length s' h'->Q ((r s' h').res)):Q ((sSeq (zw it g b) r s h).res):=by
 have:=Qg (Q:=Q) (r:=r) I hok step k _ 0 s h rfl (Bk _) h0;unfold sSeq zw;simp only[ei,Res.bindS];rw[Dv]at this;exact this
end L3
namespace My
open PySem L2 L3
def Ex:("0123456789" :Str)=tx [48,49,50,51,52,53,54,55,56,57]:=by decide+kernel
def tx_0:("0" :Str)=tx [48]:=by decide+kernel
def Fx (c:Nat):decide (c∈[48,49,50,51,52,53,54,55,56,57])=yO c:=by
 by_cases h:c<128
 .exact (by decide+kernel:∀c,c<128->decide (c∈[48,49,50,51,52,53,54,55,56,57])=yO c) c h
 .rw[Aj fun m=>h ((by decide+kernel:∀x∈[48,49,50,51,52,53,54,55,56,57],x<128) c m)]
  unfold yO;rw[Aj (p:=c<=57) (by lia),Ca]
def zu (l:List Nat):Bool:=decide (1<=l.length) && decide (l.length<=11) && l.all yO && (decide (l=[48]) || !decide (l.headD 0=48))
def Gx {l:List Nat} (h: ¬(1<=l.length/\l.length<=11)):zu l=false:=by
 unfold zu
 by_cases q:1<=l.length
 .rw[Aj (p:=l.length<=11) fun z=>h ⟨q,z⟩,Ca];rfl
 .rw[Aj q];rfl
def Ks {l:List Nat} (h:l.all yO=false):zu l=false:=by unfold zu;rw[h,Ca];rfl
def Kt {l:List Nat} (h1:1<=l.length) (h2:l.length<=11) (h3:l.all yO=true):zu l=(decide (l=[48]) || !decide (l.headD 0=48)):=by unfold zu;rw[Bg h1,Bg h2,h3];rfl
def Ku {l:List Nat} (hl:l.length<=100000) (h:H3):AZ [.str (tx l)] h=.ok (.v (.bl (zu l))) h:=by
 have hl2:l.length<=sizeLine:=by have:=zW;lia
 by_cases h1:(1:Int)<=(l.length:Int)
 .by_cases h2:(l.length:Int)<=11
  .have hc:Gf [some (.v (.str (tx l)))] h=.ok (.m (.lst ((l.map fun c=>yO c).map .bl))) h:=by
    unfold Gf;rw[Cc]
    refine Kn (fun s=> ∃x,s=[x]) _ (by simp![]) (by lia) ⟨none,rfl⟩ ?_
    rintro c s _ ⟨x,rfl⟩;exact⟨_,_,by (simp![])<;>rfl,⟨_,rfl⟩,by (simp![Ex,Fw,Fx])<;>rfl,rfl⟩
   have hb:bAll (fun bs=>bs.all id) [some (.v (.str (tx l)))] h [.x (.lst ((l.map fun c=>yO c).map .bl))]=some (.v (.bl (l.all yO))):=by rw[HN,List.all_map];rfl
   cases h3:l.all yO with
   |false=>
    rw[h3]at hb;rw[Ks h3];simp![AZ,CV,zP,hl2,h1,h2,hc,hb]
   |true=>
    rw[h3]at hb;obtain⟨a,r,hlr⟩:∃a r,l=a::r:=by
     cases l with
     |nil=>simp at h1
     |cons a r=>exact⟨a,r,rfl⟩
    have at0:atI l 0=some a:=by rw[hlr];exact jm (j:=0) rfl
    have hd:l.headD 0=a:=by rw[hlr];rfl
    have n0:(Str.ofString "0" :Str)=tx [48]:=tx_0;rw[Kt (by lia) (by lia) h3,hd]
    by_cases q:a=48
    .subst q
     have e:decide (tx l=tx [48])=decide (l=[48]):=by
      by_cases z:l=[48]
      .rw[z];simp
      .rw[Aj z,Aj fun y=>z (Eu y)]
     (simp![AZ,CV,zP,hl2,h1,h2,DE,at0,n0,tx_0,hc,hb,AI,yD,e])<;>simp
    .have ne:decide (tx [a]=tx [48])=false:=Aj fun z=>q (by have:=Eu z;simpa using this)
     (simp![AZ,CV,zP,hl2,h1,h2,DE,at0,n0,tx_0,hc,hb,AI,ne])<;>simp[q]
  .rw[Gx (by lia)]
   simp![AZ,CV,zP,hl2,h1,h2]
 .rw[Gx (by lia)]
  simp![AZ,CV,zP,hl2,h1]
def Rt (v:Vl) (h:H3) (R:Res Vl):Prop:=R=.ok v h
def Ey {s:S3} {h:H3} {c:Nat} {l:List Nat}:yy true s h (.x (.str (tx [c]))) (.x (.str (tx l)))=some (.v (.bl (!decide (c∈l)))):=by
 have e:=Fw (s:=s) (h:=h) (c:=c) (l:=l);unfold yy at e ⊢;simp only[Cr,Bo,Cs,Vl.v.injEq,V3.bl.injEq]at e;simp only[Bb,e]
def Kv {l:List Nat} {i:Nat} {a:Nat} (p:Nat->Bool) (hi:l[i]? =some a) (h:(l.take i).all p=true):(l.take (i+1)).all p=p a:=by
 rw[List.take_add_one,hi,List.all_append,h];simp
def Gy {l:List Nat} (hl:l.length<=100000) (h:H3):qX [.str (tx l)] h=.ok (.v (.bl (zu l))) h:=by
 have hl2:l.length<=sizeLine:=by have:=zW;lia
 by_cases h1:(l.length:Int)<1
 .rw[Gx (by lia)]
  simp![qX,Ff,zP,hl2,h1]
 .by_cases h2:(11:Int)<(l.length:Int)
  .rw[Gx (by lia)]
   simp![qX,Ff,zP,hl2,h1,h2]
  .show Rt (.v (.bl (zu l))) h _
   unfold qX Ff Hn
   refine BO rfl ?_
   refine zF (by (simp![zP,hl2,h1,h2])<;>rfl) ?_
   refine it_E (l:=l) (enc:=fun c=>.str (tx [c])) (its:=[]) (ok:=fun _=>True) (by (simp![iS])<;>rfl) (fun i s h'=>h'=h/\∃y,s=[some (.v (.str (tx l))),y]/\(l.take i).all yO=true) (fun _ _ _ _=>trivial) ⟨rfl,none,rfl,rfl⟩ ?_ ?_
   .rintro i c s h' hi ⟨rfl,y,rfl,hI⟩
    have hn:=Kv yO hi hI;cases hf:yO c with
    |true=>
     rw[hf]at hn;exact .inl ⟨_,_,.inl (by (simp![Ex,Ey,Fx,hf])<;>rfl),rfl,_,rfl,hn⟩
    |false=>
     refine .inr (.inl ⟨.v (.bl false),_,by (simp![Ex,Ey,Fx,hf])<;>rfl,?_⟩)
     unfold Rt;rw[Ks (by
      refine Bool.eq_false_iff.mpr fun z=>?_
      rw[B8]at z;rw[z c (Al hi)]at hf;cases hf)]
   .rintro s h' ⟨rfl,y,rfl,hI⟩
    rw[List.take_length]at hI;obtain⟨a,r,hlr⟩:∃a r,l=a::r:=by
     cases l with
     |nil=>simp at h1
     |cons a r=>exact⟨a,r,rfl⟩
    have at0:atI l 0=some a:=by rw[hlr];exact jm (j:=0) rfl
    have hd:l.headD 0=a:=by rw[hlr];rfl
    have n0:(Str.ofString "0" :Str)=tx [48]:=tx_0;unfold Rt;rw[Kt (by lia) (by lia) hI,hd]
    by_cases z:l=[48]
    .have e:decide (tx l=tx [48])=true:=by rw[z];simp
     (simp![n0,tx_0,yD,e])<;>simp[z]
    .have e:decide (tx l=tx [48])=false:=Aj fun y=>z (Eu y)
     have e2:decide (tx [a]=tx [48])=decide (a=48):=by
      by_cases q:a=48
      .rw[q];simp
      .rw[Aj q,Aj fun y=>q (by have:=Eu y;simpa using this)]
     (simp![n0,tx_0,zP,hl2,yD,AI,DE,at0,e,e2])<;>simp[z]
def qZ (c:Nat):Bool:=small c || yO c
def Gz {l:List Nat} (h: ¬(1<=l.length/\l.length<=8)):yX l=false:=by
 unfold yX
 by_cases q:1<=l.length
 .rw[Aj (p:=l.length<=8) fun z=>h ⟨q,z⟩,Ca];rfl
 .rw[Aj q];rfl
def G0 {l:List Nat} {a:Nat} (h1:1<=l.length) (h2:l.length<=8) (hd:l.headD 0=a):yX l=(small a && l.all qZ):=by unfold yX;rw[Bg h1,Bg h2,hd];rfl
def Kw {l:List Nat} (h: ¬(l.length:Int)<1):∃a,atI l 0=some a/\l.headD 0=a/\∃r,l=a::r:=by
 cases l with
 |nil=>simp at h
 |cons a r=>exact⟨a,jm (j:=0) rfl,rfl,r,rfl⟩
def Ky {l:List Nat} (hl:l.length<=100000) (h:H3):BS [.str (tx l)] h=.ok (.v (.bl (yX l))) h:=by
 have hl2:l.length<=sizeLine:=by have:=zW;lia
 by_cases h1:(1:Int)<=(l.length:Int)
 .by_cases h2:(l.length:Int)<=8
  .have hc:Gi [some (.v (.str (tx l)))] h=.ok (.m (.lst ((l.map qZ).map .bl))) h:=by
    unfold Gi;rw[Cc]
    refine Kn (fun s=> ∃x,s=[x]) _ (by simp![]) (by lia) ⟨none,rfl⟩ ?_
    rintro c s _ ⟨x,rfl⟩;exact⟨_,_,by (simp![])<;>rfl,⟨_,rfl⟩,by (simp![PH,Fw,PK])<;>rfl,rfl⟩
   have hb:bAll (fun bs=>bs.all id) [some (.v (.str (tx l)))] h [.x (.lst ((l.map qZ).map .bl))]=some (.v (.bl (l.all qZ))):=by rw[HN,List.all_map];rfl
   obtain⟨a,at0,hd,_⟩:=Kw (l:=l) (by lia)
   rw[G0 (by lia) (by lia) hd]
   cases hs:small a with
   |false=>(simp![BS,Ei,zP,hl2,h1,h2,DE,at0,DD,Fw,Ew,hs,hc,hb])<;>rfl
   |true=>(simp![BS,Ei,zP,hl2,h1,h2,DE,at0,DD,Fw,Ew,hs,hc,hb])<;>rfl
  .rw[Gz (by lia)]
   simp![BS,Ei,zP,hl2,h1,h2]
 .rw[Gz (by lia)]
  simp![BS,Ei,zP,hl2,h1]
def HS (l:List Nat):qp (tx l)=l.map fun c=>V3.str (tx [c]):=by unfold qp tx;simp
def Qh {l:List Nat} (hl:l.length<=100000) (h:H3):BX [.str (tx l)] h=.ok (.v (.bl (yX l))) h:=by
 have hl2:l.length<=sizeLine:=by have:=zW;lia
 by_cases h1:(l.length:Int)<1
 .rw[Gz (by lia)]
  simp![BX,Fp,zP,hl2,h1]
 .by_cases h2:(8:Int)<(l.length:Int)
  .rw[Gz (by lia)]
   simp![BX,Fp,zP,hl2,h1,h2]
  .obtain⟨a,at0,hd,r,hlr⟩:=Kw h1
   show Rt (.v (.bl (yX l))) h _;unfold BX Fp Ht
   refine BO rfl ?_
   refine zF (by (simp![zP,hl2,h1,h2])<;>rfl) ?_
   have hz:(List.range (tx l).length).map (fun k=>V3.tup [.int (k:Nat),(qp (tx l)).getD k .non])=(List.range l.length).map fun k=>V3.tup [.int (k:Nat),.str (tx [l.getD k 0])]:=by
    rw[zP]
    refine List.map_congr_left fun k hk=>?_
    have hk:k<l.length:=B6.mp hk;rw[HS,Cj,A2,yq hk,Cj,yq hk];rfl
   refine it_E (l:=List.range l.length) (enc:=fun k:Nat=>V3.tup [.int (k:Int),.str (tx [l.getD k 0])]) (its:=[]) (ok:=fun _=>True) (by (simp![Hh,hz])<;>rfl) (fun i s h'=>h'=h/\∃y z,s=[some (.v (.str (tx l))),y,z]/\(0<i->small a=true)/\(l.take i).all qZ=true) (fun _ _ _ _=>trivial) ⟨rfl,none,none,rfl,fun z=>absurd z (by decide),rfl⟩ ?_ ?_
   .rintro i k s h' hk ⟨rfl,y,z,rfl,h0,hI⟩
    have hi:i<l.length:=by have:=(As.mp hk).1;simpa using this
    have ek:k=i:=by rw[Cu hi]at hk;cases hk;rfl
    subst ek;have hc:l[k]? =some (l.getD k 0):=by rw[yq hi,Cj,yq hi];rfl
    have hn:=Kv qZ hc hI;have hm:=Al hc;have hz:k=0->l.getD k 0=a:=fun z=>by rw[z,hlr];rfl
    generalize l.getD k 0=c at*;have bad:qZ c=false->yX l=false:=fun z=>by
     rw[G0 (by lia) (by lia) hd,Bool.eq_false_iff.mpr (fun q:l.all qZ=true=>by rw[B8]at q;rw[q c hm]at z;cases z),Ca]
    cases hs:small c with
    |true=>
     have e1:qZ c=true:=by unfold qZ;rw[hs];rfl
     rw[e1]at hn;exact .inl ⟨_,_,.inl (by (simp![DD,Ey,Ew,hs])<;>rfl),rfl,_,_,rfl,fun _=>by by_cases z:k=0;exact hz z ▸ hs;exact h0 (by lia),hn⟩
    |false=>
     by_cases z:k=0
     .refine .inr (.inl ⟨.v (.bl false),_,by (simp![DD,Ey,Ew,hs,z])<;>rfl,?_⟩)
      unfold Rt;rw[G0 (by lia) (by lia) hd,<-hz z,hs];rfl
     .have zi: ¬(k:Int)=0:=by lia
      have zd:decide ((k:Int)=0)=false:=Aj zi;cases hf:yO c with
      |true=>
       have e1:qZ c=true:=by unfold qZ;rw[hf,Bool.or_true]
       rw[e1]at hn;exact .inl ⟨_,_,.inl (by (simp![DD,Ex,Ey,Ew,Fx,hs,hf,zi,zd])<;>rfl),rfl,_,_,rfl,fun _=>h0 (by lia),hn⟩
      |false=>
       refine .inr (.inl ⟨.v (.bl false),_,by (simp![DD,Ex,Ey,Ew,Fx,hs,hf,zi,zd])<;>rfl,?_⟩)
       unfold Rt;rw[bad (by unfold qZ;rw[hs,hf];rfl)]
   .rintro s h' ⟨rfl,y,z,rfl,h0,hI⟩
    rw[Dq]at h0 hI;rw[List.take_length]at hI;unfold Rt;rw[G0 (by lia) (by lia) hd,h0 (by lia),hI]
    (simp![])<;>rfl
def vl (l:List Nat):Int:=((PySem.NumText.digitsVal l:Nat):Int)
def Kz {l:List Nat} (h:zu l=true):(∀c∈l,48<=c/\c<=57)/\1<=l.length/\l.length<=11:=by
 unfold zu at h;simp only[Be,B9]at h;obtain⟨⟨⟨h1,h2⟩,h3⟩,_⟩:=h
 refine⟨fun c hc=>?_,h1,h2⟩
 rw[B8]at h3;have:=h3 c hc;unfold yO at this;simpa using this
def jh {l:List Nat} (h:zu l=true) (s:S3) (hh:H3):qF s hh [.x (.str (tx l))]=some (.v (.int (vl l))):=by
 obtain⟨h1,h2,h3⟩:=Kz h;have e:=PySem.intText_digits (x:=tx l) (by rw[BZ];exact h1) (by rw[BZ];intro z;rw[z]at h2;simp at h2) (by rw[zP];lia)
 rw[BZ]at e;unfold qF;simp only[e,zP,Aa (show l.length<=640 by lia)]
 rfl
abbrev qw:X3:=⟨("NoLine" :Str),none⟩
def Fy {l:List Nat} (h:zu l=true) (H:H3):qt [.str (tx l)] H=.ok (.v (.int (vl l))) H:=by
 have e:=Ku (l:=l) (by have:=(Kz h).2.2;lia) H
 rw[h]at e;simp![qt,Gg,e,jh h]
def G1 {l:List Nat} (hl:l.length<=100000) (h:zu l=false) (H:H3):qt [.str (tx l)] H=.ex qw H:=by
 have e:=Ku hl H;rw[h]at e
 (simp![qt,Gg,e,jj])<;>rfl
def Qi {l:List Nat} (h:yX l=true) (hl:l.length<=100000) (H:H3):BD [.str (tx l)] H=.ok (.v (.str (tx l))) H:=by
 have e:=Ky hl H;rw[h]at e;simp![BD,Gj,e]
def Qj {l:List Nat} (hl:l.length<=100000) (h:yX l=false) (H:H3):BD [.str (tx l)] H=.ex qw H:=by
 have e:=Ky hl H;rw[h]at e
 (simp![BD,Gj,e,jj])<;>rfl
def K0:qv jc ("NoLine" :Str) ("NoLine" :Str)=some true:=by decide+kernel
def Qk:qv jc ("NoLine" :Str) ("YardError" :Str)=some true:=by decide+kernel
def Ql:qv jc ("NoLine" :Str) ("NoSpans" :Str)=some false:=by decide+kernel
def Qm:qv jc ("NoLine" :Str) ("NoName" :Str)=some false:=by decide+kernel
def Qn:qv jc ("NoLine" :Str) ("NoNumber" :Str)=some false:=by decide+kernel
def HU {l:List Nat} (hl:l.length<=100000) (h:H3):BC [.str (tx l)] h=.ok (.v (.bl true)) h:=by
 have e:=Gy hl h;cases q:zu l with
 |true=>
  rw[q]at e
  (simp![BC,Gh,AW,Fy q,e,jh q])<;>simp
 |false=>
  rw[q]at e
  (simp![BC,Gh,AW,pick,noEx,K0,G1 hl q,e])<;>rfl
def zjh (z:Str):tx z.cps.toList=z:=by unfold tx;simp
def HV (x:List Nat) (i j:Nat):(Builtin.Str.strSub (tx x) i j).length<=x.length:=by
 rw[PP,zP,B2,Cf];lia
def Qo (x:List Nat) (y:Str):(PySem.Txt.split (tx x) y).length<=x.length+2/\1<=(PySem.Txt.split (tx x) y).length/\∀p∈PySem.Txt.split (tx x) y,p.length<=x.length:=by
 have one:([tx x]:List Str).length<=x.length+2/\1<=([tx x]:List Str).length/\∀p∈[tx x],p.length<=x.length:=⟨by simp,by simp,fun p hp=>by rw[Ay.mp hp,zP];exact Af _⟩
 unfold PySem.Txt.split
 split
 .exact one
 .split
  .exact one
  .have ho:=PySem.StrLaws.occ_length_le (tx x) y 0 (tx x).length ((tx x).length+1)
   rw[zP]at ho ⊢
   refine⟨by rw[length_partsBetween];lia,by rw[length_partsBetween];lia,fun p hp=>?_⟩
   unfold Builtin.Str.partsBetween at hp;obtain⟨q,_,rfl⟩:=Dc.mp hp;exact HV x _ _
def zt (y:Str) (x:List Nat):List (List Nat):=(PySem.Txt.split (tx x) y).map fun z=>z.cps.toList
def Qp (y:Str) (x:List Nat):(PySem.Txt.split (tx x) y).map V3.str=(zt y x).map fun l=>V3.str (tx l):=by
 unfold zt;rw[Cc]
 refine List.map_congr_left fun z _=>?_
 show V3.str z=V3.str (tx z.cps.toList);rw[zjh]
def qS (y:Str) (x:List Nat):(zt y x).length<=x.length+2/\1<=(zt y x).length/\∀l∈zt y x,l.length<=x.length:=by
 obtain⟨h1,h2,h3⟩:=Qo x y;unfold zt;rw[Ah]
 refine⟨h1,h2,fun l hl=>?_⟩
 obtain⟨z,hz,rfl⟩:=Dc.mp hl;exact h3 z hz
def CA {p:P3} {a:A3} {s:S3} {h:H3} {x:List Nat} {y:Str} (hx:x.length<=100000) (hy:(y.length==0)=false) (ep:p s h=.ok (.x (.str (tx x))) h) (ea:a s h=.ok [.x (.str y)] h):qU p a s h=.ok (.m (.lst ((zt y x).map fun l=>.str (tx l)))) h:=by
 unfold qU;simp only[ep,Res.bind,ea];rw[Aa ⟨by rw[zP];exact hx,hy⟩,Qp]
def qd (x:List Nat):List Nat:=(PySem.Txt.partition (tx x) (tx [45])).1.cps.toList
def qg (x:List Nat):List Nat:=(PySem.Txt.partition (tx x) (tx [45])).2.2.cps.toList
def yZ:("-" :Str)=tx [45]:=by decide+kernel
def K1 (x:List Nat):(qd x).length<=x.length/\(qg x).length<=x.length:=by
 have e:∀z:Str,z.cps.toList.length=z.length:=fun z=>by rw[Bz];rfl
 unfold qd qg;rw[e,e];unfold PySem.Txt.partition
 split
 .exact⟨HV x _ _,HV x _ _⟩
 .exact⟨by rw[zP];exact Af _,Bk _⟩
def K2 {p:P3} {a:A3} {s:S3} {h:H3} {x:List Nat} (hx:x.length<=100000) (ep:p s h=.ok (.x (.str (tx x))) h) (ea:a s h=.ok [.x (.str (tx [45]))] h):∃m:Str,EY p a s h=.ok (.v (.tup [.str (tx (qd x)),.str m,.str (tx (qg x))])) h:=by
 refine⟨(PySem.Txt.partition (tx x) (tx [45])).2.1,?_⟩
 unfold EY;simp only[ep,Res.bind,ea];rw[Aa ⟨by rw[zP];exact hx,by decide+kernel⟩]
 unfold qd qg;rw[zjh,zjh]
def yS (x:List Nat):Option (Int×Int):=if zu (qd x)=true/\zu (qg x)=true then some (vl (qd x),vl (qg x)) else none
def Qq {x:List Nat} (hx:x.length<=100000) (h:H3):D8 [.str (tx x)] h=(match yS x with|some p=>.ok (.v (.tup [.int p.1,.int p.2])) h|none=>.ex qw h):=by
 obtain⟨l1,l2⟩:=K1 x;obtain⟨m,ep⟩:=K2 (p:=pV 0) (a:=aCons (pE (eC (.str ("-" :Str)))) aNil) (s:=[some (.v (.str (tx x))),none,none,none]) (h:=h) hx (by simp![]) (by (simp![yZ])<;>rfl)
 unfold yS;cases q1:zu (qd x) with
 |false=>
  rw[Ab (by simp)]
  (simp![D8,Fl,ep,G1 (show (qd x).length<=100000 by lia) q1])<;>rfl
 |true=>
  cases q2:zu (qg x) with
  |false=>
   rw[Ab (by simp)]
   (simp![D8,Fl,ep,Fy q1,G1 (show (qg x).length<=100000 by lia) q2])<;>rfl
  |true=>
   rw[Aa ⟨rfl,rfl⟩]
   (simp![D8,Fl,ep,Fy q1,Fy q2])<;>rfl
abbrev zE (p:Int×Int):V3:= .tup [.int p.1,.int p.2]
def ja (acc:List (Int×Int)):Int:=(acc.getLast?.map fun p=>p.2).getD (-2)
def qJ:List (List Nat)->List (Int×Int)->Option (List (Int×Int))
 | [],acc=>some acc
 |w::r,acc=>match yS w with
  |none=>none
  |some p=>if p.2<p.1 then none else if acc≠[]/\p.1<=ja acc+1 then none else qJ r (acc++[p])
def QS (o:Option (List (Int×Int))) (h:H3) (R:Res Vl):Prop:=R=(match o with|none=>.ok (.v .non) h|some l=>.ok (.m (.lst (l.map zE))) h)
def Qr {w:List Nat} (h:yS w=none): ¬(zu (qd w)=true/\zu (qg w)=true):=fun z=>by unfold yS at h;rw[Aa z]at h;cases h
def K4 {w:List Nat} {p:Int×Int} (h:yS w=some p):zu (qd w)=true/\zu (qg w)=true/\p=(vl (qd w),vl (qg w)):=by
 unfold yS at h
 by_cases z:zu (qd w)=true/\zu (qg w)=true
 .rw[Aa z]at h;cases h;exact⟨z.1,z.2,rfl⟩
 .rw[Ab z]at h;cases h
def Qs {acc:List (Int×Int)} (h:acc≠[]):∃p,atI (acc.map zE) (-1)=some (zE p)/\ja acc=p.2:=by
 obtain⟨l,p,rfl⟩:∃l p,acc=l++[p]:=⟨acc.dropLast,acc.getLast h,(List.dropLast_concat_getLast h).symm⟩
 refine⟨p,?_,by unfold ja;simp⟩
 have e:(-1+((l.length:Int)+1)).toNat=l.length:=by lia
 unfold atI qE;simp;rw[Aa (by lia),e]
 simp
def Qt {t:List Nat} (ht:t.length<=10000) (h:H3):QS (qJ (zt (" " :Str) t) []) h (Fs [.str (tx t)] h):=by
 obtain⟨c1,c2,c3⟩:=qS (" " :Str) t;have es:=fun (s:S3) (p:P3) (ep:p s h=.ok (.x (.str (tx t))) h)=>CA (a:=aCons (pE (eC (.str (" " :Str)))) aNil) (s:=s) (h:=h) (x:=t) (y:=(" " :Str)) (by lia) (by decide+kernel) ep (by simp![])
 unfold Fs Hx Hw;generalize zt (" " :Str) t=ws at*;generalize hT:qJ ws []=tot
 refine BO rfl ?_
 refine zF (by (simp![])<;>rfl) ?_
 refine it_E (l:=ws) (enc:=fun l=>.str (tx l)) (its:=[.lst (ws.map fun l=>.str (tx l))]) (ok:=fun _=>True) (by (simp![iL,qr,es])<;>rfl) (fun i s h'=>h'=h/\∃acc y2 y3 y4 y5,s=[some (.v (.str (tx t))),some (.m (.lst (acc.map zE))),y2,y3,y4,y5]/\acc.length<=i/\qJ (ws.drop i) acc=tot) (fun _ _ _ _=>trivial) ⟨rfl,[],none,none,none,none,rfl,Af _,hT⟩ ?_ ?_
 .rintro i w s h' hi ⟨rfl,acc,y2,y3,y4,y5,rfl,hn,hI⟩
  have hw:=c3 w (Al hi);obtain⟨l1,l2⟩:=K1 w;have hlt:=(As.mp hi).1;rw[HQ hi]at hI;unfold qJ at hI;obtain⟨m,ep⟩:=K2 (p:=pV 2) (a:=aCons (pE (eC (.str ("-" :Str)))) aNil) (s:=[some (.v (.str (tx t))),some (.m (.lst (acc.map zE))),some (.v (.str (tx w))),y3,y4,y5]) (h:=h') (x:=w) (by lia) (by simp![]) (by (simp![yZ])<;>rfl)
  have on:=fun (a b c d:Option Vl)=>Qa (s:=[some (.v (.str (tx t))),some (.m (.lst (acc.map zE))),a,b,c,d]) (h:=h') (f:= .s 1) (xs:=acc.map zE) rfl
  have f1:=Gy (l:=qd w) (by lia) h'
  have f2:=Gy (l:=qg w) (by lia) h'
  cases q:yS w with
  |none=>
   rw[q]at hI;have bad:=Qr q
   refine .inr (.inl ⟨.v .non,h',?_,by unfold QS;rw[<-hI]⟩)
   cases q1:zu (qd w) with
   |false=>rw[q1]at f1;(simp![ep,f1])<;>rfl
   |true=>
    have q2:zu (qg w)=false:=by cases z:zu (qg w);rfl;exact absurd ⟨q1,z⟩ bad
    rw[q1]at f1;rw[q2]at f2;(simp![ep,f1,f2])<;>rfl
  |some p=>
   obtain⟨q1,q2,rfl⟩:=K4 q;rw[q]at hI;dsimp only at hI;rw[q1]at f1;rw[q2]at f2
   by_cases hp:vl (qg w)<vl (qd w)
   .rw[Aa hp]at hI
    refine .inr (.inl ⟨.v .non,h',?_,by unfold QS;rw[<-hI]⟩)
    (simp![ep,f1,f2,jh q1,jh q2,hp])<;>rfl
   .rw[Ab hp]at hI
    by_cases he:acc=[]
    .rw[Ab (fun z=>z.1 he)]at hI
     have hne:(acc.map zE).isEmpty=true:=by rw[he];rfl
     have hm:(acc.map zE).length<sizeLine:=by rw[Ah];have:=zW;lia
     exact .inl ⟨_,_,.inl (by (simp![ep,f1,f2,jh q1,jh q2,hp,on,hne,mAppend_ok hm])<;>rfl),rfl,acc++[(vl (qd w),vl (qg w))],_,_,_,_,by rw[B5];rfl,by simp;lia,hI⟩
    .obtain⟨p,ea,el⟩:=Qs he
     rw[el]at hI;have ox:=fun (a b c d:Option Vl)=>(HP (s:=[some (.v (.str (tx t))),some (.m (.lst (acc.map zE))),a,b,c,d]) (h:=h') (i:=1) (j:= -1)).trans (show _=some (Vl.v (zE p)) by show (atI (acc.map zE) (-1)).map Vl.v=_;rw[ea];rfl)
     have hne:(acc.map zE).isEmpty=false:=by cases acc with|nil=>exact absurd rfl he|cons a r=>rfl
     by_cases hg:vl (qd w)<=p.2+1
     .rw[Aa ⟨he,hg⟩]at hI
      refine .inr (.inl ⟨.v .non,h',?_,by unfold QS;rw[<-hI]⟩)
      (simp![ep,f1,f2,jh q1,jh q2,hp,on,hne,ox,hg])<;>rfl
     .rw[Ab (fun z=>hg z.2)]at hI
      have hm:(acc.map zE).length<sizeLine:=by rw[Ah];have:=zW;lia
      exact .inl ⟨_,_,.inl (by (simp![ep,f1,f2,jh q1,jh q2,hp,on,hne,ox,hg,mAppend_ok hm])<;>rfl),rfl,acc++[(vl (qd w),vl (qg w))],_,_,_,_,by rw[B5];rfl,by simp;lia,hI⟩
 .rintro s h' ⟨rfl,acc,y2,y3,y4,y5,rfl,hn,hI⟩
  rw[B4]at hI;unfold qJ at hI;unfold QS;rw[<-hI]
  (simp![])<;>rfl
def yg (sg:Nat) (w:List Nat):Option V3:=
 if sg=119 then (if yX w=true then some (.str (tx w)) else none)
 else if sg=109 then (if w=[45,49] then some (.int (-1)) else if zu w=true then some (.int (vl w)) else none)
 else (if zu w=true then some (.int (vl w)) else none)
def tx_w:("w" :Str)=tx [119]:=by decide+kernel
def tx_n:("n" :Str)=tx [110]:=by decide+kernel
def tx_m:("m" :Str)=tx [109]:=by decide+kernel
def qL:("-1" :Str)=tx [45,49]:=by decide+kernel
def Qu (s:S3) (hh:H3):qF s hh [.x (.str (tx [45,49]))]=some (.v (.int (-1))):=by
 have e:PySem.intText? (tx [45,49])=some (-1):=by decide+kernel
 unfold qF;simp only[e];rfl
def jo (a b:List Nat):decide (tx a=tx b)=decide (a=b):=by
 by_cases z:a=b
 .rw[z];simp
 .rw[Aj z,Aj fun y=>z (Eu y)]
def DF:(([119]:List Nat)=[110])=False:=by simp
def DG:(([119]:List Nat)=[109])=False:=by simp
def DH:(([110]:List Nat)=[119])=False:=by simp
def DI:(([110]:List Nat)=[109])=False:=by simp
def DJ:(([109]:List Nat)=[119])=False:=by simp
def DK:(([109]:List Nat)=[110])=False:=by simp
def jv:D3:=(sSeq (sIf (tAnd3 (tE (eOp zD (pV 7) (pE (eC (.str ("w" :Str)))))) (tNot3 (tE (eCall BX (aCons (pV 6) aNil))))) (sRet (eC .non)) sSkip) (sSeq (sIf (tAnd3 (tE (eOp zD (pV 7) (pE (eC (.str ("n" :Str)))))) (tNot3 (tE (eCall qX (aCons (pV 6) aNil))))) (sRet (eC .non)) sSkip) (sSeq (sIf (tAnd3 (tE (eOp zD (pV 7) (pE (eC (.str ("m" :Str)))))) (tAnd3 (tE (eOp qf (pV 6) (pE (eC (.str ("-1" :Str)))))) (tNot3 (tE (eCall qX (aCons (pV 6) aNil)))))) (sRet (eC .non)) sSkip) (sSeq (qI qk (pV 5) (aCons (pV 6) aNil)) (sIf (tE (eOp qf (pV 7) (pE (eC (.str ("w" :Str)))))) (qQ (pV 5) (pE (eNeg (kJ 1))) (eB qF (aCons (pV 6) aNil))) sSkip)))))
def rw_w:Gq=zw (Fb (aCons (pV 4) (aCons (pV 1) aNil))) (gT (gsCons (gN 6) (gsCons (gN 7) gsNil))) jv:=funext fun _=>funext fun _=>rfl
def HW {acc:List V3} {v:V3}:qE (acc++[v]).length (-1)=some acc.length:=by
 have e:(-1+((acc.length:Int)+1)).toNat=acc.length:=by lia
 unfold qE;simp;lia
def HX {acc:List V3} {v y:V3}:(acc++[v]).set acc.length y=acc++[y]:=by
 rw[List.set_append_right _ _ (Af _)];simp
def nxW (x0 x1 x2 x3 x4:Option Vl) (acc:List V3) (w:List Nat) (sg:Nat) (h:H3):Option V3->O3
 |some v=>.nx [x0,x1,x2,x3,x4,some (.m (.lst (acc++[v]))),some (.v (.str (tx w))),some (.v (.str (tx [sg])))] h
 |none=>.rt (.v .non) h
def Qv {x0 x1 x2 x3 x4 y6 y7:Option Vl} {acc:List V3} {w:List Nat} {sg:Nat} (hs:sg=119\/sg=110\/sg=109) (hw:w.length<=100000) (ha:acc.length<=1000) (h:H3):
  gb (gT (gsCons (gN 6) (gsCons (gN 7) gsNil))) jv (.tup [.str (tx w),.str (tx [sg])]) [x0,x1,x2,x3,x4,some (.m (.lst acc)),y6,y7] h=nxW x0 x1 x2 x3 x4 acc w sg h (yg sg w):=by
 have hm:acc.length<sizeLine:=by have:=zW;lia
 have fg:=Gy hw h;have fn:=Qh hw h;have r1:∀v:V3,rdm [x0,x1,x2,x3,x4,some (.m (.lst (acc++[v]))),some (.v (.str (tx w))),some (.v (.str (tx [sg])))] h (.s 5)=some (acc++[v]):=fun _=>rfl
 unfold yg
 rcases hs with rfl|rfl|rfl
 .cases q:yX w with
  |true=>rw[q]at fn;(simp![jv,tx_w,tx_n,tx_m,qL,yD,AI,jo,DF,DG,DH,DI,DJ,DK,fn,mAppend_ok hm,nxW])<;>rfl
  |false=>rw[q]at fn;(simp![jv,tx_w,tx_n,tx_m,qL,yD,AI,jo,DF,DG,DH,DI,DJ,DK,fn,nxW])<;>rfl
 .cases q:zu w with
  |true=>rw[q]at fg;(simp![jv,tx_w,tx_n,tx_m,qL,yD,AI,jo,DF,DG,DH,DI,DJ,DK,fg,mAppend_ok hm,jh q,qQ,HW,HX,r1,nxW])<;>rfl
  |false=>rw[q]at fg;(simp![jv,tx_w,tx_n,tx_m,qL,yD,AI,jo,DF,DG,DH,DI,DJ,DK,fg,nxW])<;>rfl
 .by_cases z:w=[45,49]
  .subst z
   (simp![jv,tx_w,tx_n,tx_m,qL,yD,AI,jo,DF,DG,DH,DI,DJ,DK,mAppend_ok hm,Qu,qQ,HW,HX,r1,nxW])<;>rfl
  .have zd:decide (w=[45,49])=false:=Aj z
   cases q:zu w with
   |true=>rw[q]at fg;(simp![jv,tx_w,tx_n,tx_m,qL,yD,AI,jo,DF,DG,DH,DI,DJ,DK,fg,z,zd,mAppend_ok hm,jh q,qQ,HW,HX,r1,nxW])<;>rfl
   |false=>rw[q]at fg;(simp![jv,tx_w,tx_n,tx_m,qL,yD,AI,jo,DF,DG,DH,DI,DJ,DK,fg,z,zd,nxW])<;>rfl
def zK:List (List Nat×Nat)->Option (List V3)
 | []=>some []
 |q::r=>match yg q.2 q.1 with
  |some v=>(zK r).map (v:: ·)
  |none=>none
abbrev encZ (q:List Nat×Nat):V3:= .tup [.str (tx q.1),.str (tx [q.2])]
abbrev rwG:G3:=(gT (gsCons (gN 6) (gsCons (gN 7) gsNil)))
def K5 {ok:H3->Prop} {g:G3} {b:D3} {x:V3} {r:List V3} {s:S3} {h:H3} (hok:ok h):zA ok g b (x::r) s h=match gb g b x s h with
  |.nx s2 h2=>zA ok g b r s2 h2
  |.ct s2 h2=>zA ok g b r s2 h2
  |.bk s2 h2=>.nx s2 h2
  |o=>o:=by
 rw[zA,Aa hok];unfold gb;cases g x s<;>rfl
def SgOk (c:Nat):Prop:=c=119\/c=110\/c=109
theorem K6 {x0 x1 x2 x3 x4:Option Vl} {h:H3}:∀(zs:List (List Nat×Nat)) (acc:List V3) (y6 y7:Option Vl),(∀q∈zs,q.1.length<=100000/\SgOk q.2)->acc.length+zs.length<=1000->
  (∀vs,zK zs=some vs->∃z6 z7,zA (fun _=>True) rwG jv (zs.map encZ) [x0,x1,x2,x3,x4,some (.m (.lst acc)),y6,y7] h=.nx [x0,x1,x2,x3,x4,some (.m (.lst (acc++vs))),z6,z7] h)/\
  (zK zs=none->zA (fun _=>True) rwG jv (zs.map encZ) [x0,x1,x2,x3,x4,some (.m (.lst acc)),y6,y7] h=.rt (.v .non) h)
 | [],acc,y6,y7,_,_=>⟨fun vs e=>by
   cases e;exact⟨y6,y7,by rw[Bq,zA,Aa trivial,B1]⟩,fun e=>by cases e⟩
 |q::r,acc,y6,y7,hq,hl=>by
  rw[A9]at hl;have hq0:=hq q An;have st:=Qv (x0:=x0) (x1:=x1) (x2:=x2) (x3:=x3) (x4:=x4) (y6:=y6) (y7:=y7) (acc:=acc) (w:=q.1) (sg:=q.2) hq0.2 hq0.1 (by lia) h
  rw[Ax,K5 trivial,st];unfold zK;cases w:yg q.2 q.1 with
  |none=>exact⟨fun vs e=>(by cases e),fun _=>rfl⟩
  |some v=>
   have ih:=K6 (x0:=x0) (x1:=x1) (x2:=x2) (x3:=x3) (x4:=x4) (h:=h) r (acc++[v]) (some (.v (.str (tx q.1)))) (some (.v (.str (tx [q.2])))) (fun p hp=>hq p (Av _ hp)) (by simp;lia)
   refine⟨fun vs e=>?_,fun e=>?_⟩
   .cases z:zK r with
    |none=>rw[z]at e;cases e
    |some us=>
     rw[z]at e;cases e;obtain⟨z6,z7,e2⟩:=ih.1 us z;exact⟨z6,z7,by rw[show acc++v::us=(acc++[v])++us by simp];exact e2⟩
   .cases z:zK r with
    |none=>exact ih.2 z
    |some us=>rw[z]at e;cases e
def jg (form part:List Nat):Option (List V3):=if (zt (" " :Str) part).length=form.length then zK ((zt (" " :Str) part).zip form) else none
def yU (form:List Nat):List (List Nat)->Option (List (List V3))
 | []=>some []
 |p::r=>match jg form p with
  |some vs=>(yU form r).map (vs:: ·)
  |none=>none
def QL (o:Option (List (List V3))) (h:H3) (R:Res Vl):Prop:=R=(match o with|none=>.ok (.v .non) h|some l=>.ok (.m (.lst (l.map .tup))) h)
def K7 (ws:List (List Nat)) (form:List Nat):((ws.map fun l=>V3.str (tx l)).zip (qp (tx form))).map (fun q=>V3.tup [q.1,q.2])=(ws.zip form).map encZ:=by
 rw[HS,List.zip_map,Cc];rfl
def ptB:D3:=(sSeq (sSet 4 (qU (pV 3) (aCons (pE (eC (.str (" " :Str)))) aNil))) (sSeq (sIf (tE (eOp qf (pE (eB bLen (aCons (pV 4) aNil))) (pE (eB bLen (aCons (pV 1) aNil))))) (sRet (eC .non)) sSkip) (sSeq (sSet 5 (eLst aNil)) (sSeq (sFz 4) (sSeq Gq (qI qk (pV 2) (aCons (pE (eB EZ (aCons (pV 5) aNil))) aNil)))))))
def Qw {t form part:List Nat} (hp:part.length<=100000) (hf:∀c∈form,SgOk c) (hl:form.length<=10) {acc:List V3} (ha:acc.length<=100000) {y3 y4 y5 y6 y7:Option Vl} (h:H3):
  (∀vs,jg form part=some vs->∃z3 z4 z5 z6 z7,gb (gN 3) ptB (.str (tx part)) [some (.v (.str (tx t))),some (.v (.str (tx form))),some (.m (.lst acc)),y3,y4,y5,y6,y7] h=.nx [some (.v (.str (tx t))),some (.v (.str (tx form))),some (.m (.lst (acc++[.tup vs]))),z3,z4,z5,z6,z7] h)/\
  (jg form part=none->gb (gN 3) ptB (.str (tx part)) [some (.v (.str (tx t))),some (.v (.str (tx form))),some (.m (.lst acc)),y3,y4,y5,y6,y7] h=.rt (.v .non) h):=by
 obtain⟨c1,c2,c3⟩:=qS (" " :Str) part;have es:=fun (s:S3) (p:P3) (ep:p s h=.ok (.x (.str (tx part))) h)=>CA (a:=aCons (pE (eC (.str (" " :Str)))) aNil) (s:=s) (h:=h) (x:=part) (y:=(" " :Str)) hp (by decide+kernel) ep (by simp![])
 unfold jg;generalize zt (" " :Str) part=ws at*;have e1:=es [some (.v (.str (tx t))),some (.v (.str (tx form))),some (.m (.lst acc)),some (.v (.str (tx part))),y4,y5,y6,y7] (pV 3) (by simp![])
 have l1:ws.length<=sizeLine:=by have:=zW;lia
 have l2:form.length<=sizeLine:=by have:=zW;lia
 have hm:acc.length<sizeLine:=by have:=zW;lia
 by_cases q:ws.length=form.length
 .rw[Aa q]
  have qi:((ws.length:Nat):Int)=((form.length:Nat):Int):=by lia
  have rl:=K6 (x0:=some (.v (.str (tx t)))) (x1:=some (.v (.str (tx form)))) (x2:=some (.m (.lst acc))) (x3:=some (.v (.str (tx part)))) (x4:=some (.v (.lst (ws.map fun l=>.str (tx l))))) (h:=h) (ws.zip form) [] y6 y7 (fun p hp=>⟨by have:=c3 p.1 (C4 hp).1;lia,hf p.2 (C4 hp).2⟩) (by rw[List.length_zip];simp;lia)
  refine⟨fun vs e=>?_,fun e=>?_⟩
  .obtain⟨z6,z7,e2⟩:=rl.1 vs e
   rw[Cq]at e2
   refine⟨some (.v (.str (tx part))),some (.v (.lst (ws.map fun l=>.str (tx l)))),some (.m (.lst vs)),z6,z7,?_⟩
   (simp![ptB,rw_w,e1,bLen,zP,Ah,l1,l2,oNe_int,qi,zw,Fb,qr,K7,e2,EZ,mAppend_ok hm])<;>rfl
  .have e2:=rl.2 e
   (simp![ptB,rw_w,e1,bLen,zP,Ah,l1,l2,oNe_int,qi,zw,Fb,qr,K7,e2])<;>rfl
 .rw[Ab q]
  refine⟨fun vs e=>(by cases e),fun _=>?_⟩
  have qi: ¬((ws.length:Nat):Int)=((form.length:Nat):Int):=by lia
  (simp![ptB,e1,bLen,zP,Ah,l1,l2,oNe_int,qi])<;>rfl
def K8 {t form:List Nat} (ht:t.length<=10000) (hf:∀c∈form,SgOk c) (hl:form.length<=10) (h:H3):QL (yU form (zt ("; " :Str) t)) h (Fq [.str (tx t),.str (tx form)] h):=by
 obtain⟨c1,c2,c3⟩:=qS ("; " :Str) t;have es:=fun (s:S3) (p:P3) (ep:p s h=.ok (.x (.str (tx t))) h)=>CA (a:=aCons (pE (eC (.str ("; " :Str)))) aNil) (s:=s) (h:=h) (x:=t) (y:=("; " :Str)) (by lia) (by decide+kernel) ep (by simp![])
 unfold Fq Hv Hu;generalize zt ("; " :Str) t=ps at*;generalize hT:yU form ps=tot
 refine BO rfl ?_
 refine zF (by (simp![])<;>rfl) ?_
 refine it_E (l:=ps) (enc:=fun l=>.str (tx l)) (g:=gN 3) (b:=ptB) (its:=[.lst (ps.map fun l=>.str (tx l))]) (ok:=fun _=>True) (by (simp![iL,qr,es])<;>rfl) (fun i s h'=>h'=h/\∃(acc:List (List V3)) (y3 y4 y5 y6 y7:Option Vl),s=[some (.v (.str (tx t))),some (.v (.str (tx form))),some (.m (.lst (acc.map .tup))),y3,y4,y5,y6,y7]/\acc.length<=i/\(yU form (ps.drop i)).map (acc++ ·)=tot) (fun _ _ _ _=>trivial) ⟨rfl,[],none,none,none,none,none,rfl,Af _,by rw[Dv,hT];cases tot<;>rfl⟩ ?_ ?_
 .rintro i w s h' hi ⟨rfl,acc,y3,y4,y5,y6,y7,rfl,hn,hI⟩
  have hw:=c3 w (Al hi);have hlt:=(As.mp hi).1;rw[HQ hi]at hI;unfold yU at hI;obtain⟨p1,p2⟩:=Qw (t:=t) (form:=form) (part:=w) (by lia) hf hl (acc:=acc.map .tup) (by rw[Ah];lia) (y3:=y3) (y4:=y4) (y5:=y5) (y6:=y6) (y7:=y7) h'
  cases q:jg form w with
  |none=>
   rw[q]at hI;exact .inr (.inl ⟨.v .non,h',p2 q,by unfold QL;rw[<-hI];rfl⟩)
  |some vs=>
   rw[q]at hI;dsimp only at hI;obtain⟨z3,z4,z5,z6,z7,e⟩:=p1 vs q
   refine .inl ⟨_,_,.inl e,rfl,acc++[vs],z3,z4,z5,z6,z7,by rw[B5];rfl,by simp;lia,?_⟩
   rw[<-hI];cases yU form (ps.drop (i+1)) with
   |none=>rfl
   |some r=>simp
 .rintro s h' ⟨rfl,acc,y3,y4,y5,y6,y7,rfl,hn,hI⟩
  rw[B4]at hI;unfold yU at hI;unfold QL;rw[<-hI];simp only[A5,B1]
  (simp![])<;>rfl
def formN:List Nat:=[110,110,119]
def formW:List Nat:=[119,110,109,110,110]
def Qx:("nnw" :Str)=tx formN:=by decide+kernel
def Qy:("wnmnn" :Str)=tx formW:=by decide+kernel
def sgN:∀c∈formN,SgOk c:=fun c hc=>by unfold formN at hc;simp at hc;unfold SgOk;lia
def sgW:∀c∈formW,SgOk c:=fun c hc=>by unfold formW at hc;simp at hc;unfold SgOk;lia
def yk (t:List Nat) (k:Nat):Option (List V3):=
 if t=[45] then some [] else if k=0 then (qJ (zt (" " :Str) t) []).map (·.map zE) else if k=1 then (yU formN (zt ("; " :Str) t)).map (·.map .tup) else (yU formW (zt ("; " :Str) t)).map (·.map .tup)
def QD (o:Option (List V3)) (h:H3) (R:Res Vl):Prop:=R=(match o with|none=>.ok (.v .non) h|some l=>.ok (.m (.lst l)) h)
def QS.d {o:Option (List (Int×Int))} {h:H3} {R:Res Vl} (q:QS o h R):QD (o.map (·.map zE)) h R:=by
 unfold QS at q;unfold QD;rw[q];cases o<;>rfl
def QL.d {o:Option (List (List V3))} {h:H3} {R:Res Vl} (q:QL o h R):QD (o.map (·.map .tup)) h R:=by
 unfold QL at q;unfold QD;rw[q];cases o<;>rfl
def Qz {t:List Nat} {k:Nat} (hk:k=0\/k=1\/k=2) (ht:t.length<=10000) (h:H3):QD (yk t k) h (AH [.str (tx t),.int (k:Int)] h):=by
 unfold yk
 by_cases z:t=[45]
 .rw[Aa z]
  subst z;unfold QD
  (simp![AH,El,yZ,yD])<;>rfl
 .rw[Ab z]
  have zd:decide (tx t=tx [45])=false:=by rw[jo];exact Aj z
  rcases hk with rfl|rfl|rfl
  .rw[Aa rfl]
   have e:=(Qt ht h).d;generalize (qJ (zt (" " :Str) t) []).map (·.map zE)=o at*;unfold QD at e ⊢;cases o<;>(simp![AH,El,yZ,yD,zd,e])<;>rfl
  .rw[Ab (by decide),Aa rfl]
   have e:=(K8 (form:=formN) ht sgN (by decide) h).d
   generalize (yU formN (zt ("; " :Str) t)).map (·.map V3.tup)=o at*;unfold QD at e ⊢;cases o<;>(simp![AH,El,yZ,Qx,yD,zd,e])<;>rfl
  .rw[Ab (by decide),Ab (by decide)]
   have e:=(K8 (form:=formW) ht sgW (by decide) h).d
   generalize (yU formW (zt ("; " :Str) t)).map (·.map V3.tup)=o at*;unfold QD at e ⊢;cases o<;>(simp![AH,El,yZ,Qy,yD,zd,e])<;>rfl
def yG {α β:Type} (f:α->Option β):List α->Option (List β)
 | []=>some []
 |a::r=>match f a with
  |some y=>(yG f r).map (y:: ·)
  |none=>none
def RsX (h:H3):Option (List V3)->Res (List V3)
 |some ys=>.ok ys h
 |none=>.ex qw h
theorem K9 {α:Type} {ok:H3->Prop} {g:G3} {e:E3} {h:H3} (I:S3->Prop) (enc:α->V3) (f:α->Option V3) (hok:ok h):∀(l:List α) (acc:List V3) (s:S3),acc.length+l.length<=sizeLine->
  (∀a s,a∈l->I s->∃s1,g (enc a) s=some s1/\I s1/\(∀y,f a=some y->∃r,e s1 h=.ok r h/\r.fz=some y)/\(f a=none->e s1 h=.ex qw h))->I s->
  qH ok g tTru e (l.map enc) acc s h=RsX h ((yG f l).map (acc++ ·))
 | [],acc,s,_,_,_=>by
  rw[Bq,qH,Aa hok];simp[yG,RsX]
 |a::r,acc,s,hl,st,hI=>by
  rw[A9]at hl;obtain⟨s1,h1,h2,h3,h4⟩:=st a s An hI;rw[Ax,qH,Aa hok];simp only[h1,tTru];unfold yG;cases q:f a with
  |none=>simp only[h4 q];rfl
  |some y=>
   obtain⟨v,e1,e2⟩:=h3 y q;simp only[e1,e2];rw[Aa (by lia),K9 I enc f hok r (acc++[y]) s1 (by simp;lia) (fun a s ha=>st a s (Av _ ha)) h2]
   cases yG f r with
   |none=>rfl
   |some ys=>simp[RsX]
def RsV (h:H3):Option (List V3)->Res Vl
 |some ys=>.ok (.m (.lst ys)) h
 |none=>.ex qw h
def Fz {α:Type} {n:Nat} {fr:List Nat} {p:P3} {g:G3} {e:E3} {s:S3} {h:H3} {x:V3} {ok:H3->Prop} {enc:α->V3} {l:List α} (I:S3->Prop) (f:α->Option V3) (ep:p s h=.ok (.x x) h)
  (hw:qr h x=some (l.map enc,ok)) (hl:l.length<=1000000) (h0:I (yc n fr s)) (step:∀a s,a∈l->I s->∃s1,g (enc a) s=some s1/\I s1/\(∀y,f a=some y->∃r,e s1 h=.ok r h/\r.fz=some y)/\(f a=none->e s1 h=.ex qw h)):
  AE n fr (iL p) g tTru e s h=RsV h (yG f l):=by
 have:=K9 (ok:=ok) (g:=g) (e:=e) (h:=h) I enc f (ES hw).1 l [] (yc n fr s) (by have:=zW;simp;lia) step h0
 unfold AE iL;simp only[ep,Res.bind,hw,this];cases yG f l<;>rfl
abbrev qm (p:List Nat):V3:= .lst ((zt (" " :Str) p).map fun l=>.str (tx l))
def KA {n:Int} (h:H3):qT [.str (tx [45]),.int n] h=.ok (.m (.lst [])) h:=by
 (simp![qT,Fi,yZ,yD])<;>rfl
def Q0 {t:List Nat} (ht:t.length<=10000) (s:S3) (hs:(pV 0) s h=.ok (.x (.str (tx t))) h):Gk s h=.ok (.m (.lst ((zt ("; " :Str) t).map qm))) h:=by
 obtain⟨c1,c2,c3⟩:=qS ("; " :Str) t;have es:=CA (p:=pV 0) (a:=aCons (pE (eC (.str ("; " :Str)))) aNil) (s:=s) (h:=h) (x:=t) (y:=("; " :Str)) (by lia) (by decide+kernel) hs (by simp![])
 unfold Gk
 refine HM (l:=zt ("; " :Str) t) (enc:=fun l=>.str (tx l)) (x:= .lst ((zt ("; " :Str) t).map fun l=>.str (tx l))) (ok:=fun _=>True) (fun s=> ∃y,s=[y]) qm (by (simp![es])<;>rfl) rfl (by lia) ⟨none,rfl⟩ ?_
 rintro p s hp ⟨y,rfl⟩;have hw:=c3 p hp;have es:=fun (s:S3) (q:P3) (ep:q s h=.ok (.x (.str (tx p))) h)=>CA (a:=aCons (pE (eC (.str (" " :Str)))) aNil) (s:=s) (h:=h) (x:=p) (y:=(" " :Str)) (by lia) (by decide+kernel) ep (by simp![])
 exact⟨_,_,rfl,⟨_,rfl⟩,es _ (pV 0) (by simp![]),rfl⟩
def Q1 {ps:List (List Nat)} {n:Nat} (hp:ps.length<=100000) (hw:∀p∈ps,p.length<=100000) (h:H3) {x0:Option Vl}:
  Gm [x0,some (.v (.int (n:Int))),some (.v (.lst (ps.map qm)))] h=.ok (.m (.lst ((ps.map fun p=> !decide ((zt (" " :Str) p).length=n)).map .bl))) h:=by
 unfold Gm;rw[Cc]
 refine HM (l:=ps) (x:= .lst (ps.map qm)) (enc:=qm) (fun s=> ∃a,s=[a,some (.v (.int (n:Int)))]) _ (by (simp![])<;>rfl) rfl (by lia) ⟨none,rfl⟩ ?_
 rintro p s hm ⟨a,rfl⟩;obtain⟨c1,c2,c3⟩:=qS (" " :Str) p;have hl:(zt (" " :Str) p).length<=sizeLine:=by have:=zW;have:=hw p hm;lia
 have q:decide (((zt (" " :Str) p).length:Int)=(n:Int))=decide ((zt (" " :Str) p).length=n):=by
  by_cases z:(zt (" " :Str) p).length=n
  .rw[Bg z,Bg (by lia)]
  .rw[Aj z,Aj (by lia)]
 exact⟨_,.v (.bl (!decide ((zt (" " :Str) p).length=n))),by (simp![])<;>rfl,⟨_,rfl⟩,by (simp![bLen,hl,Ah,oNe_int,q])<;>rfl,rfl⟩
def G2 {t:List Nat} {n:Nat} (ht:t.length<=10000) (z:t≠[45]) (h:H3) {b:Bool} (hb:(zt ("; " :Str) t).all (fun p=>decide ((zt (" " :Str) p).length=n))=b):
  qT [.str (tx t),.int (n:Int)] h=(if b=true then .ok (.v (.lst ((zt ("; " :Str) t).map qm))) h else .ex qw h):=by
 obtain⟨c1,c2,c3⟩:=qS ("; " :Str) t;have zd:decide (tx t=tx [45])=false:=by rw[jo];exact Aj z
 have e1:=Q0 (h:=h) ht [some (.v (.str (tx t))),some (.v (.int (n:Int))),none] (by simp![])
 have e2:=fun x0=>Q1 (x0:=x0) (ps:=zt ("; " :Str) t) (n:=n) (by lia) (fun p hp=>by have:=c3 p hp;lia) h
 have e3:∀s,bAll (fun bs=>bs.any id) s h [.x (.lst (((zt ("; " :Str) t).map fun p=> !decide ((zt (" " :Str) p).length=n)).map .bl))]=some (.v (.bl (!b))):=fun s=>by
  rw[HN,<-hb,List.any_map,List.all_eq_not_any_not,Bool.not_not];rfl
 generalize (((zt ("; " :Str) t).map fun p=> !decide ((zt (" " :Str) p).length=n)).map V3.bl)=zs at*
 generalize (zt ("; " :Str) t).map qm=us at*;cases b with
 |true=>(simp![qT,Fi,yZ,yD,zd,e1,e2,e3])<;>rfl
 |false=>(simp![qT,Fi,yZ,yD,zd,e1,e2,e3,jj])<;>rfl
theorem HY {form:List Nat}:∀{ps:List (List Nat)},ps.all (fun p=>decide ((zt (" " :Str) p).length=form.length))=true->yU form ps=yG (fun p=>zK ((zt (" " :Str) p).zip form)) ps
 | [],_=>rfl
 |p::r,h=>by
  rw[List.all_cons,Be]at h;have e:jg form p=zK ((zt (" " :Str) p).zip form):=by unfold jg;rw[Aa (by simpa using h.1)]
  unfold yU yG;rw[e,HY h.2];cases zK ((zt (" " :Str) p).zip form)<;>rfl
theorem HZ {form:List Nat}:∀{ps:List (List Nat)},ps.all (fun p=>decide ((zt (" " :Str) p).length=form.length))=false->yU form ps=none
 | [],h=>by simp at h
 |p::r,h=>by
  unfold yU
  by_cases e:(zt (" " :Str) p).length=form.length
  .rw[List.all_cons,Bg e,Bool.true_and]at h
   rw[HZ h];cases jg form p<;>rfl
  .have:jg form p=none:=by unfold jg;rw[Ab e]
   rw[this]
theorem G4 {α β γ:Type} (f:α->Option β) (k:β->γ):∀l:List α,(yG f l).map (List.map k)=yG (fun a=>(f a).map k) l
 | []=>rfl
 |a::r=>by
  have ih:=G4 f k r;unfold yG;cases f a with
  |none=>rfl
  |some y=>
   simp only[A5];rw[<-ih];cases yG f r<;>rfl
def QX (o:Option (List V3)) (h:H3) (R:Res Vl):Prop:=R=RsV h o
def wd_n (w:List Nat):yg 110 w=if zu w=true then some (.int (vl w)) else none:=by unfold yg;rw[Ab (by decide),Ab (by decide)]
def wd_w (w:List Nat):yg 119 w=if yX w=true then some (.str (tx w)) else none:=by unfold yg;rw[Aa rfl]
def wd_m (w:List Nat):yg 109 w=if w=[45,49] then some (.int (-1)) else if zu w=true then some (.int (vl w)) else none:=by unfold yg;rw[Ab (by decide),Aa rfl]
def qb (h:H3):Option V3->Res Vl
 |some v=>.ok (.v v) h
 |none=>.ex qw h
def Ez {w:List Nat} (hw:w.length<=100000) (h:H3):qt [.str (tx w)] h=qb h (yg 110 w):=by
 rw[wd_n];cases q:zu w with
 |true=>rw[Fy q];rfl
 |false=>rw[G1 hw q];rfl
def KB {w:List Nat} (hw:w.length<=100000) (h:H3):BD [.str (tx w)] h=qb h (yg 119 w):=by
 rw[wd_w];cases q:yX w with
 |true=>rw[Qi q hw];rfl
 |false=>rw[Qj hw q];rfl
def Q2 {w:List Nat} (hw:w.length<=100000) (h:H3):CY [.str (tx w)] h=qb h (yg 109 w):=by
 rw[wd_m];have e:=Ez hw h;rw[wd_n]at e
 by_cases z:w=[45,49]
 .subst z
  rw[Aa rfl]
  (simp![CY,Fh,qL,yD,qb])<;>rfl
 .have zd:decide (tx w=tx [45,49])=false:=by rw[jo];exact Aj z
  rw[Ab z];cases q:zu w with
  |true=>rw[q]at e;(simp![CY,Fh,qL,yD,zd,e,qb])<;>rfl
  |false=>rw[q]at e;(simp![CY,Fh,qL,yD,zd,e,qb])<;>rfl
def row3 {a b c:List Nat}:zK ([a,b,c].zip formN)=(yg 110 a).bind fun x=>(yg 110 b).bind fun y=>(yg 119 c).bind fun z=>some [x,y,z]:=by
 unfold formN;simp only[List.zip_cons_cons,List.zip_nil_right,zK];cases yg 110 a<;>cases yg 110 b<;>cases yg 119 c<;>rfl
def row5 {a b c d e:List Nat}:zK ([a,b,c,d,e].zip formW)=(yg 119 a).bind fun x=>(yg 110 b).bind fun y=>(yg 109 c).bind fun z=>(yg 110 d).bind fun u=>(yg 110 e).bind fun v=>some [x,y,z,u,v]:=by
 unfold formW;simp only[List.zip_cons_cons,List.zip_nil_right,zK];cases yg 119 a<;>cases yg 110 b<;>cases yg 109 c<;>cases yg 110 d<;>cases yg 110 e<;>rfl
def len3 {α:Type} {l:List α} (h:l.length=3):∃a b c,l=[a,b,c]:=by
 match l,h with
 | [a,b,c],_=>exact⟨a,b,c,rfl⟩
def len5 {α:Type} {l:List α} (h:l.length=5):∃a b c d e,l=[a,b,c,d,e]:=by
 match l,h with
 | [a,b,c,d,e],_=>exact⟨a,b,c,d,e,rfl⟩
def Q3 {t:List Nat} (ht:t.length<=10000) (h:H3):QX (yk t 1) h (DA [.str (tx t)] h):=by
 unfold yk QX
 by_cases z:t=[45]
 .rw[Aa z]
  subst z;have e:=KA (n:=3) h;have ec:D9 [some (.v (.str (tx [45])))] h=.ok (.m (.lst [])) h:=by
   unfold D9;exact Fz (l:=([]:List (List Nat))) (enc:=qm) (x:= .lst []) (ok:=fun _=>True) (fun _=>True) (fun _=>none) (by (simp![e])<;>rfl) rfl (by simp) trivial fun a s ha=>(nomatch ha)
  (simp![DA,Fo,ec])<;>rfl
 .rw[Ab z,Ab (by decide),Aa rfl]
  obtain⟨c1,c2,c3⟩:=qS ("; " :Str) t;cases hb:(zt ("; " :Str) t).all (fun p=>decide ((zt (" " :Str) p).length=formN.length)) with
  |false=>
   rw[HZ hb];have e:qT [.str (tx t),.int 3] h=.ex qw h:=(G2 (n:=3) ht z h hb).trans (by rw[Ab (by decide)])
   (simp![DA,Fo,D9,AE,iL,e])<;>rfl
  |true=>
   rw[HY hb,G4];have e:qT [.str (tx t),.int 3] h=.ok (.v (.lst ((zt ("; " :Str) t).map qm))) h:=(G2 (n:=3) ht z h hb).trans (by rw[Aa rfl])
   rw[B8]at hb;have ec:D9 [some (.v (.str (tx t)))] h=RsV h (yG (fun p=>(zK ((zt (" " :Str) p).zip formN)).map V3.tup) (zt ("; " :Str) t)):=by
    unfold D9
    refine Fz (l:=zt ("; " :Str) t) (enc:=qm) (x:= .lst ((zt ("; " :Str) t).map qm)) (ok:=fun _=>True) (fun s=> ∃a b c,s=[a,b,c]) (fun p=>(zK ((zt (" " :Str) p).zip formN)).map V3.tup) (by (simp![e])<;>rfl) rfl (by lia) ⟨none,none,none,rfl⟩ ?_
    rintro p s hp ⟨y0,y1,y2,rfl⟩;have hl:=hb p hp;have hw:=c3 p hp;obtain⟨d1,d2,d3⟩:=qS (" " :Str) p;unfold qm;generalize zt (" " :Str) p=ws at*;obtain⟨a,b,c,rfl⟩:=len3 (of_decide_eq_true hl);have na:=Ez (w:=a) (by have:=d3 a (by simp);lia) h
    have nb:=Ez (w:=b) (by have:=d3 b (by simp);lia) h
    have nc:=KB (w:=c) (by have:=d3 c (by simp);lia) h
    rw[row3]
    refine⟨[some (.v (.str (tx a))),some (.v (.str (tx b))),some (.v (.str (tx c)))],by (simp![])<;>rfl,⟨_,_,_,rfl⟩,?_⟩
    generalize yg 110 a=oa at*;generalize yg 110 b=ob at*;generalize yg 119 c=oc at*
    constructor
    .intro y hy
     cases oa with
     |none=>cases hy
     |some x1=>
      cases ob with
      |none=>cases hy
      |some x2=>
       cases oc with
       |none=>cases hy
       |some x3=>
        cases hy;exact⟨.v (.tup [x1,x2,x3]),by (simp![na,nb,nc,qb])<;>rfl,rfl⟩
    .intro hy
     cases oa with
     |none=>(simp![na,qb])<;>rfl
     |some x1=>
      cases ob with
      |none=>(simp![na,nb,qb])<;>rfl
      |some x2=>
       cases oc with
       |none=>(simp![na,nb,nc,qb])<;>rfl
       |some x3=>cases hy
   generalize yG (fun p=>(zK ((zt (" " :Str) p).zip formN)).map V3.tup) (zt ("; " :Str) t)=o at*
   cases o<;>(simp![DA,Fo,ec,RsV])<;>rfl
def Q4 {a b c d e:List Nat} (ha:a.length<=100000) (hb:b.length<=100000) (hc:c.length<=100000) (hd:d.length<=100000) (he:e.length<=100000) (h:H3):
  AF [.lst ([a,b,c,d,e].map fun l=>.str (tx l))] h=qb h ((zK ([a,b,c,d,e].zip formW)).map V3.tup):=by
 have na:=KB ha h;have nb:=Ez hb h;have nc:=Q2 hc h;have nd:=Ez hd h;have ne:=Ez he h;rw[row5];simp only[Ax,Bq];generalize yg 119 a=oa at*;generalize yg 110 b=ob at*;generalize yg 109 c=oc at*;generalize yg 110 d=od at*;generalize yg 110 e=oe at*;cases oa with
 |none=>(simp![AF,BU,na,qb])<;>rfl
 |some x1=>
  cases ob with
  |none=>(simp![AF,BU,na,nb,qb])<;>rfl
  |some x2=>
   cases oc with
   |none=>(simp![AF,BU,na,nb,nc,qb])<;>rfl
   |some x3=>
    cases od with
    |none=>(simp![AF,BU,na,nb,nc,nd,qb])<;>rfl
    |some x4=>
     cases oe with
     |none=>(simp![AF,BU,na,nb,nc,nd,ne,qb])<;>rfl
     |some x5=>(simp![AF,BU,na,nb,nc,nd,ne,qb])<;>rfl
def Q5 {t:List Nat} (ht:t.length<=10000) (h:H3):QX (yk t 2) h (D7 [.str (tx t)] h):=by
 unfold yk QX
 by_cases z:t=[45]
 .rw[Aa z]
  subst z;have e:=KA (n:=5) h;have ec:CZ [some (.v (.str (tx [45])))] h=.ok (.m (.lst [])) h:=by
   unfold CZ;exact Fz (l:=([]:List (List Nat))) (enc:=qm) (x:= .lst []) (ok:=fun _=>True) (fun _=>True) (fun _=>none) (by (simp![e])<;>rfl) rfl (by simp) trivial fun a s ha=>(nomatch ha)
  (simp![D7,Fj,ec])<;>rfl
 .rw[Ab z,Ab (by decide),Ab (by decide)]
  obtain⟨c1,c2,c3⟩:=qS ("; " :Str) t;cases hb:(zt ("; " :Str) t).all (fun p=>decide ((zt (" " :Str) p).length=formW.length)) with
  |false=>
   rw[HZ hb];have e:qT [.str (tx t),.int 5] h=.ex qw h:=(G2 (n:=5) ht z h hb).trans (by rw[Ab (by decide)])
   (simp![D7,Fj,CZ,AE,iL,e])<;>rfl
  |true=>
   rw[HY hb,G4];have e:qT [.str (tx t),.int 5] h=.ok (.v (.lst ((zt ("; " :Str) t).map qm))) h:=(G2 (n:=5) ht z h hb).trans (by rw[Aa rfl])
   rw[B8]at hb;have ec:CZ [some (.v (.str (tx t)))] h=RsV h (yG (fun p=>(zK ((zt (" " :Str) p).zip formW)).map V3.tup) (zt ("; " :Str) t)):=by
    unfold CZ
    refine Fz (l:=zt ("; " :Str) t) (enc:=qm) (x:= .lst ((zt ("; " :Str) t).map qm)) (ok:=fun _=>True) (fun s=> ∃a,s=[a]) (fun p=>(zK ((zt (" " :Str) p).zip formW)).map V3.tup) (by (simp![e])<;>rfl) rfl (by lia) ⟨none,rfl⟩ ?_
    rintro p s hp ⟨y0,rfl⟩;have hl:=hb p hp;have hw:=c3 p hp;obtain⟨d1,d2,d3⟩:=qS (" " :Str) p;unfold qm;generalize zt (" " :Str) p=ws at*;obtain⟨a,b,c,d,e,rfl⟩:=len5 (of_decide_eq_true hl);have j:=Q4 (a:=a) (b:=b) (c:=c) (d:=d) (e:=e) (by have:=d3 a (by simp);lia) (by have:=d3 b (by simp);lia) (by have:=d3 c (by simp);lia) (by have:=d3 d (by simp);lia) (by have:=d3 e (by simp);lia) h
    generalize (zK ([a,b,c,d,e].zip formW)).map V3.tup=o at*;generalize [a,b,c,d,e].map (fun l=>V3.str (tx l))=us at*
    refine⟨[some (.v (.lst us))],by (simp![])<;>rfl,⟨_,rfl⟩,fun y hy=>?_,fun hy=>?_⟩
    .subst hy;exact⟨.v y,by (simp![j,qb])<;>rfl,rfl⟩
    .subst hy;(simp![j,qb])<;>rfl
   generalize yG (fun p=>(zK ((zt (" " :Str) p).zip formW)).map V3.tup) (zt ("; " :Str) t)=o at*
   cases o<;>(simp![D7,Fj,ec,RsV])<;>rfl
def chk:List (Int×Int)->Int->Bool
 | [],_=>true
 |p::r,b=>if p.2<p.1\/p.1<b+2 then false else chk r p.2
def Q6 {w:List Nat} {p:Int×Int} (h:yS w=some p):0<=p.1:=by
 obtain⟨_,_,rfl⟩:=K4 h;exact Int.natCast_nonneg _
def Q7 {acc:List (Int×Int)} {p:Int×Int}:ja (acc++[p])=p.2:=by unfold ja;simp
theorem KC:∀{ws:List (List Nat)} {acc:List (Int×Int)},yG yS ws=none->qJ ws acc=none
 | [],_,h=>by cases h
 |w::r,acc,h=>by
  unfold yG at h;unfold qJ;cases q:yS w with
  |none=>rfl
  |some p=>
   rw[q]at h;have e:yG yS r=none:=by
    cases z:yG yS r with
    |none=>rfl
    |some l=>rw[z]at h;cases h
   dsimp only
   split
   .rfl
   .split
    .rfl
    .exact KC e
theorem KD:∀{ws:List (List Nat)} {acc sp:List (Int×Int)},yG yS ws=some sp->qJ ws acc=if chk sp (ja acc)=true then some (acc++sp) else none
 | [],acc,sp,h=>by cases h;simp[qJ,chk]
 |w::r,acc,sp,h=>by
  unfold yG at h;unfold qJ;cases q:yS w with
  |none=>rw[q]at h;cases h
  |some p=>
   rw[q]at h;cases z:yG yS r with
   |none=>rw[z]at h;cases h
   |some l=>
    rw[z]at h;cases h;have hp:=Q6 q;have ih:=KD (acc:=acc++[p]) z;rw[Q7]at ih;dsimp only;have ck:chk (p::l) (ja acc)=if p.2<p.1\/p.1<ja acc+2 then false else chk l p.2:=rfl
    rw[ck]
    by_cases h1:p.2<p.1
    .rw[Aa h1,Aa (show p.2<p.1\/p.1<ja acc+2 from .inl h1)];rfl
    .rw[Ab h1]
     by_cases h2:acc≠[]/\p.1<=ja acc+1
     .rw[Aa h2,Aa (show p.2<p.1\/p.1<ja acc+2 from .inr (by lia))];rfl
     .have h3: ¬(p.2<p.1\/p.1<ja acc+2):=fun y=>y.elim h1 fun y=>by
       by_cases e:acc=[]
       .rw[e]at y
        have:ja []= -2:=rfl;lia
       .exact h2 ⟨e,by lia⟩
      rw[Ab h2,Ab h3,ih,List.append_assoc];rfl
abbrev spG:G3:=(gT (gsCons (gN 3) (gsCons (gN 4) gsNil)))
def spB:D3:=(sSeq (sIf (tOr3 (tE (eOp jr (pV 3) (pV 4))) (tE (eOp oLt (pV 3) (pE (eOp zf (pV 2) (kJ 2)))))) (jj ("NoLine" :Str) (aCons (pE (eC (.str ("spans are rising and part from one another" :Str)))) aNil)) sSkip) (sSet 2 (eV 4)))
def sp_w:Hs=zw (iL (pV 1)) spG spB:=funext fun _=>funext fun _=>rfl
def Q8 {x0 x1 y3 y4:Option Vl} {b:Int} {p:Int×Int} (h:H3):gb spG spB (zE p) [x0,x1,some (.v (.int b)),y3,y4] h=if p.2<p.1\/p.1<b+2 then .ex qw h else .nx [x0,x1,some (.v (.int p.2)),some (.v (.int p.1)),some (.v (.int p.2))] h:=by
 by_cases h1:p.2<p.1
 .rw[Aa (.inl h1)]
  (simp![spB,jj,h1])<;>rfl
 .by_cases h2:p.1<b+2
  .rw[Aa (.inr h2)]
   (simp![spB,jj,h1,h2])<;>rfl
  .rw[Ab (fun z=>z.elim h1 h2)]
   (simp![spB,jj,h1,h2])<;>rfl
theorem KF {ok:H3->Prop} {x0 x1:Option Vl} {h:H3} (hok:ok h):∀(sp:List (Int×Int)) (b:Int) (y3 y4:Option Vl),
  (chk sp b=true->∃z2 z3 z4,zA ok spG spB (sp.map zE) [x0,x1,some (.v (.int b)),y3,y4] h=.nx [x0,x1,z2,z3,z4] h)/\(chk sp b=false->zA ok spG spB (sp.map zE) [x0,x1,some (.v (.int b)),y3,y4] h=.ex qw h)
 | [],b,y3,y4=>⟨fun _=>⟨_,_,_,by rw[Bq,zA,Aa hok]⟩,fun z=>by cases z⟩
 |p::r,b,y3,y4=>by
  have ih:=KF hok (x0:=x0) (x1:=x1) r p.2 (some (.v (.int p.1))) (some (.v (.int p.2)));rw[Ax,K5 hok,Q8];unfold chk
  by_cases z:p.2<p.1\/p.1<b+2
  .rw[Aa z,Aa z]
   exact⟨fun y=>(by cases y),fun _=>rfl⟩
  .rw[Ab z,Ab z]
   exact ih
def QC (o:Option (List V3)) (R:Res Vl):Prop:=match o with
 |none=> ∃h',R=.ex qw h'
 |some l=> ∃n h',R=.ok (.v (.loc n)) h'/\h'[n]? =some (.lst l)
def Q9 {t:List Nat} (ht:t.length<=10000) (h:H3):QC (yk t 0) (BV [.str (tx t)] h):=by
 unfold yk
 by_cases z:t=[45]
 .rw[Aa z]
  subst z;exact⟨h.length,h++[.lst []],by (simp![BV,Ej,yZ,yD,eGl])<;>rfl,by simp⟩
 .rw[Ab z,Aa rfl]
  have zd:decide (tx t=tx [45])=false:=by rw[jo];exact Aj z
  obtain⟨c1,c2,c3⟩:=qS (" " :Str) t;have es:=CA (p:=pV 0) (a:=aCons (pE (eC (.str (" " :Str)))) aNil) (s:=[some (.v (.str (tx t))),none,none,none,none]) (h:=h) (x:=t) (y:=(" " :Str)) (by lia) (by decide+kernel) (by simp![]) (by simp![])
  have ec:Gn [some (.v (.str (tx t))),none,none,none,none] h=RsV h (yG (fun w=>(yS w).map zE) (zt (" " :Str) t)):=by
   unfold Gn
   refine Fz (l:=zt (" " :Str) t) (enc:=fun l=>.str (tx l)) (x:= .lst ((zt (" " :Str) t).map fun l=>.str (tx l))) (ok:=fun _=>True) (fun s=> ∃a,s=[a]) (fun w=>(yS w).map zE) (by (simp![es])<;>rfl) rfl (by lia) ⟨none,rfl⟩ ?_
   rintro w s hp ⟨y0,rfl⟩;have e:=Qq (x:=w) (by have:=c3 w hp;lia) h
   refine⟨[some (.v (.str (tx w)))],by (simp![])<;>rfl,⟨_,rfl⟩,fun y hy=>?_,fun hy=>?_⟩
   .cases q:yS w with
    |none=>rw[q]at hy;cases hy
    |some p=>
     rw[q]at hy e;cases hy;exact⟨.v (zE p),by (simp![e])<;>rfl,rfl⟩
   .cases q:yS w with
    |none=>rw[q]at e;(simp![e])<;>rfl
    |some p=>rw[q]at hy;cases hy
  rw[<-G4]at ec;cases q:yG yS (zt (" " :Str) t) with
  |none=>
   rw[q]at ec;rw[KC q];exact⟨h,by (simp![BV,Ej,yZ,yD,zd,ec,eGl,RsV])<;>rfl⟩
  |some sp=>
   rw[q]at ec;rw[KD q];have hg:(h++[C3.lst (sp.map zE)])[h.length]? =some (.lst (sp.map zE)):=by simp
   have hw:qr (h++[C3.lst (sp.map zE)]) (.loc h.length)=some (sp.map zE,fun h'=>h'[h.length]? =some (.lst (sp.map zE))):=by unfold qr;dsimp only;rw[hg]
   obtain⟨l1,l2⟩:=KF (ok:=fun h'=>h'[h.length]? =some (.lst (sp.map zE))) (h:=h++[C3.lst (sp.map zE)]) hg (x0:=some (.v (.str (tx t)))) (x1:=some (.v (.loc h.length))) sp (-2) none none
   show QC ((if chk sp (-2)=true then some ([]++sp) else none).map fun x=>x.map zE) _
   cases k:chk sp (-2) with
   |true=>
    obtain⟨z2,z3,z4,e⟩:=l1 k;rw[Aa rfl,Cq];exact⟨h.length,_,by (simp![BV,Ej,yZ,yD,zd,ec,eGl,RsV,sp_w,zw,iL,hw,e])<;>rfl,hg⟩
   |false=>
    have e:=l2 k;rw[Ab (by decide)]
    exact⟨_,by (simp![BV,Ej,yZ,yD,zd,ec,eGl,RsV,sp_w,zw,iL,hw,e])<;>rfl⟩
def IsA (l:List V3) (v:Vl) (h:H3):Prop:=v=.m (.lst l)\/∃n,v=.v (.loc n)/\h[n]? =some (.lst l)
def QA (o:Option (List V3)) (R:Res Vl):Prop:=match o with
 |none=> ∃h',R=.ex qw h'
 |some l=> ∃v h',R=.ok v h'/\IsA l v h'
def QX.a {o:Option (List V3)} {h:H3} {R:Res Vl} (q:QX o h R):QA o R:=by
 unfold QX at q;cases o with
 |none=>exact⟨h,q⟩
 |some l=>exact⟨_,h,q,.inl rfl⟩
def QC.a {o:Option (List V3)} {R:Res Vl} (q:QC o R):QA o R:=by
 cases o with
 |none=>exact q
 |some l=>obtain⟨n,h',e,g⟩:=q;exact⟨_,h',e,.inr ⟨n,rfl,g⟩⟩
def QB {t:List Nat} {k:Nat} (hk:k=0\/k=1\/k=2) (ht:t.length<=10000) (h:H3):QA (yk t k) (AG [.str (tx t),.int (k:Int)] h):=by
 rcases hk with rfl|rfl|rfl
 .have e:=(Q9 ht h).a
  generalize yk t 0=o at*;cases o with
  |none=>obtain⟨h',e⟩:=e;exact⟨h',by (simp![AG,BW,e])<;>rfl⟩
  |some l=>obtain⟨v,h',e,g⟩:=e;exact⟨v,h',by (simp![AG,BW,e])<;>rfl,g⟩
 .have e:=(Q3 ht h).a
  generalize yk t 1=o at*;cases o with
  |none=>obtain⟨h',e⟩:=e;exact⟨h',by (simp![AG,BW,e])<;>rfl⟩
  |some l=>obtain⟨v,h',e,g⟩:=e;exact⟨v,h',by (simp![AG,BW,e])<;>rfl,g⟩
 .have e:=(Q5 ht h).a
  generalize yk t 2=o at*;cases o with
  |none=>obtain⟨h',e⟩:=e;exact⟨h',by (simp![AG,BW,e])<;>rfl⟩
  |some l=>obtain⟨v,h',e,g⟩:=e;exact⟨v,h',by (simp![AG,BW,e])<;>rfl,g⟩
abbrev refV:List V3:=[.bl true,.bl false,.bl false,.bl false]
def QE {t:List Nat} {k:Nat} (hk:k=0\/k=1\/k=2) (ht:t.length<=10000) (h:H3):∃v h',Ek [.str (tx t),.int (k:Int)] h=.ok v h'/\IsA ((yk t k).getD refV) v h':=by
 have e:=QB hk ht h;generalize yk t k=o at*;cases o with
 |none=>
  obtain⟨h',e⟩:=e;exact⟨.m (.lst refV),h',by (simp![Ek,Gp,AW,pick,asN,e,Qk,K0,Ql,Qm,Qn,bIsE])<;>rfl,.inl rfl⟩
 |some l=>
  obtain⟨v,h',e,g⟩:=e;exact⟨v,h',by (simp![Ek,Gp,AW,e])<;>rfl,g⟩
def Pl1 (v:V3):Prop:=(∃i,v=.int i)\/∃x,v=.str x
def Pl2 (v:V3):Prop:=∃vs,v=.tup vs/\∀u∈vs,Pl1 u
def QF {sg:Nat} {w:List Nat} {v:V3} (h:yg sg w=some v):Pl1 v:=by
 unfold yg at h
 repeat' split at h
 all_goals first|(cases h;exact .inr ⟨_,rfl⟩)|(cases h;exact .inl ⟨_,rfl⟩)|cases h
theorem KG:∀{zs:List (List Nat×Nat)} {vs:List V3},zK zs=some vs->∀u∈vs,Pl1 u
 | [],vs,h=>by cases h;exact fun u hu=>(nomatch hu)
 |q::r,vs,h=>by
  unfold zK at h;cases w:yg q.2 q.1 with
  |none=>rw[w]at h;cases h
  |some v=>
   rw[w]at h;cases z:zK r with
   |none=>rw[z]at h;cases h
   |some us=>
    rw[z]at h;cases h;intro u hu
    rcases Ae.mp hu with rfl|hu
    .exact QF w
    .exact KG z u hu
theorem KH {form:List Nat}:∀{ps:List (List Nat)} {l:List (List V3)},yU form ps=some l->∀vs∈l,∀u∈vs,Pl1 u
 | [],l,h=>by cases h;exact fun u hu=>(nomatch hu)
 |p::r,l,h=>by
  unfold yU at h;cases w:jg form p with
  |none=>rw[w]at h;cases h
  |some v=>
   rw[w]at h;cases z:yU form r with
   |none=>rw[z]at h;cases h
   |some us=>
    rw[z]at h;cases h;intro u hu
    rcases Ae.mp hu with rfl|hu
    .unfold jg at w
     split at w
     .exact KG w
     .cases w
    .exact KH z u hu
def QG {t:List Nat} {k:Nat} {l:List V3} (h:yk t k=some l):∀v∈l,Pl2 v:=by
 have lst:∀{form:List Nat} {ps:List (List Nat)} {l:List V3},(yU form ps).map (List.map V3.tup)=some l->∀v∈l,Pl2 v:=fun {form ps l} h v hv=>by
  cases q:yU form ps with
  |none=>rw[q]at h;cases h
  |some m=>
   rw[q]at h;cases h;obtain⟨vs,hvs,rfl⟩:=Dc.mp hv;exact⟨vs,rfl,KH q vs hvs⟩
 unfold yk at h
 split at h
 .cases h;exact fun v hv=>(nomatch hv)
 .split at h
  .cases q:qJ (zt (" " :Str) t) [] with
   |none=>rw[q]at h;cases h
   |some m=>
    rw[q]at h;cases h;intro v hv;obtain⟨p,hp,rfl⟩:=Dc.mp hv;exact⟨_,rfl,fun u hu=>by
     rcases Ae.mp hu with rfl|hu
     .exact .inl ⟨_,rfl⟩
     .rw[Ay.mp hu];exact .inl ⟨_,rfl⟩⟩
  .split at h
   .exact lst h
   .exact lst h
def QH {h:H3} {n:Nat} {v:V3} (p:Pl1 v):yv h n v v=some true:=by
 rcases p with ⟨i,rfl⟩|⟨x,rfl⟩
 .rw[Hb,Bg rfl]
 .rw[Hc,Bg rfl]
def KI {h:H3} {l:List V3} (p:∀v∈l,Pl2 v):∀v∈l,yv h 8 v v=some true:=fun v hv=>by
 obtain⟨vs,rfl,q⟩:=p v hv;exact PZ fun u hu=>QH (q u hu)
def KJ {h:H3}:∀v∈refV,yv h 8 v v=some true:=fun v hv=>by
 simp only[refV,Ae,A7,Az]at hv
 rcases hv with rfl|rfl|rfl|rfl<;>(rw[Od,Bg rfl])
def KL {t:List Nat} {k:Nat} (hk:k=0\/k=1\/k=2) (ht:t.length<=10000) (h:H3):∃h',jx [.str (tx t),.int (k:Int)] h=.ok (.v (.bl true)) h':=by
 obtain⟨v,h',e1,g⟩:=QE hk ht h;have e2:=Qz hk ht h';cases q:yk t k with
 |none=>
  rw[q]at e2 g;have e2:AH [.str (tx t),.int (k:Int)] h'=.ok (.v .non) h':=e2
  refine⟨h',?_⟩
  rcases g with rfl|⟨n,rfl,g⟩
  .have r:∀y,zD [some (.v (.str (tx t))),some (.v (.int (k:Int))),some (.m (.lst ((none:Option (List V3)).getD refV))),y] h' (.s 2) (.x (.lst refV))=some (.v (.bl true)):=fun y=>Gw (xs:=refV) rfl rfl KJ
   (simp![jx,Em,e1,e2,r])<;>rfl
  .have r:∀y,zD [some (.v (.str (tx t))),some (.v (.int (k:Int))),some (.v (.loc n)),y] h' (.x (.loc n)) (.x (.lst refV))=some (.v (.bl true)):=fun y=>Gw (xs:=refV) (by simp only[rdm,rdl,g];rfl) rfl KJ
   (simp![jx,Em,e1,e2,r])<;>rfl
 |some l=>
  have pl:=QG q;rw[q]at e2 g;have e2:AH [.str (tx t),.int (k:Int)] h'=.ok (.m (.lst l)) h':=e2
  refine⟨h',?_⟩
  rcases g with rfl|⟨n,rfl,g⟩
  .have r:zD [some (.v (.str (tx t))),some (.v (.int (k:Int))),some (.m (.lst ((some l).getD refV))),some (.m (.lst l))] h' (.s 2) (.s 3)=some (.v (.bl true)):=Gw (xs:=l) rfl rfl (KI pl)
   (simp![jx,Em,e1,e2,r])<;>rfl
  .have r:zD [some (.v (.str (tx t))),some (.v (.int (k:Int))),some (.v (.loc n)),some (.m (.lst l))] h' (.x (.loc n)) (.s 3)=some (.v (.bl true)):=Gw (xs:=l) (by simp only[rdm,rdl,g];rfl) rfl (KI pl)
   (simp![jx,Em,e1,e2,r])<;>rfl
def cl0 (ns:List Int) (k:Nat):Int:=if 0<ns.length then 7919*(k:Int)+101+(ns.getD (7*k%ns.length) 0)%1000003*((k:Int)+3) else 7919*(k:Int)+101
def cl (ns:List Int) (k:Nat):Int:=if k<ns.length then ns.getD k 0 else cl0 ns k*cl0 ns k%1000003
def QI (ns:List Int) {k:Nat} (hk:k<=100): -(2 ^ 64)<cl0 ns k/\cl0 ns k<2 ^ 64:=by
 unfold cl0
 split
 .generalize ns.getD (7*k%ns.length) 0=x
  have h1:0<=x%1000003/\x%1000003<1000003:=by lia
  have h2:0<=x%1000003*((k:Int)+3):=Int.mul_nonneg h1.1 (by lia)
  have h3:x%1000003*((k:Int)+3)<=1000003*103:=Int.mul_le_mul (by lia) (by lia) (by lia) (by lia)
  lia
 .lia
def KM {ns:List Int} {k:Nat} (hk:k<ns.length):atI (ns.map V3.int) (k:Int)=some (.int (ns.getD k 0)):=jm (j:=k) (by rw[A2,yq hk,Cj,yq hk];rfl)
def QJ {ns:List Int} {K L:Int} {v:V3} (hL:(ns.length:Int)=L) (l1:K<L) (e:atI (ns.map V3.int) K=some v) (h:H3):yJ [.scr ns,.int K] h=.ok (.v v) h:=by
 (simp![yJ,Fd,Ah,hL,l1,e])
def QK {ns:List Int} {K L x:Int} (hL:(ns.length:Int)=L) (l1: ¬K<L) (l2:0<L) (e:atI (ns.map V3.int) (7*K%L)=some (.int x)) (c1:CMul 7919 K) (c4:CMul 7 K) (c3:CMul (x%1000003) (K+3)) (c2:CMul (7919*K+101+x%1000003*(K+3)) (7919*K+101+x%1000003*(K+3))) (h:H3):yJ [.scr ns,.int K] h=.ok (.v (.int ((7919*K+101+x%1000003*(K+3))*(7919*K+101+x%1000003*(K+3))%1000003))) h:=by
 (simp![yJ,Fd,Ah,hL,l1,l2,c1,c2,c3,c4,e])
def QM {ns:List Int} {K L:Int} (hL:(ns.length:Int)=L) (l1: ¬K<L) (l2: ¬0<L) (c1:CMul 7919 K) (c2:CMul (7919*K+101) (7919*K+101)) (h:H3):yJ [.scr ns,.int K] h=.ok (.v (.int ((7919*K+101)*(7919*K+101)%1000003))) h:=by
 (simp![yJ,Fd,Ah,hL,l1,l2,c1,c2])
def FA (ns:List Int) (hl:ns.length<=63) {k:Nat} (hk:k<=100) (h:H3):yJ [.scr ns,.int (k:Int)] h=.ok (.v (.int (cl ns k))) h:=by
 unfold cl;have c1:CMul 7919 (k:Int):=Eb ⟨by decide,by decide⟩
 have c2:=Eb (j:=cl0 ns k) (QI ns hk);have c4:CMul 7 (k:Int):=Eb ⟨by decide,by decide⟩
 by_cases h1:k<ns.length
 .rw[Aa h1]
  exact QJ rfl (by lia) (KM h1) h
 .rw[Ab h1]
  unfold cl0 at c2 ⊢
  by_cases h2:0<ns.length
  .rw[Aa h2]at c2 ⊢
   have ek:((7*k%ns.length:Nat):Int)=7*(k:Int)%(ns.length:Int):=by rw[Int.natCast_emod,Int.natCast_mul];rfl
   have e:=KM (ns:=ns) (k:=7*k%ns.length) (Nat.mod_lt _ h2);rw[ek]at e;generalize ns.getD (7*k%ns.length) 0=x at*;exact QK rfl (by lia) (by lia) e c1 c4 (Eb ⟨by lia,by lia⟩) c2 h
  .rw[Ab h2]at c2 ⊢
   exact QM rfl (by lia) (by lia) c1 c2 h
def QN (many:Int) (h:H3) (R:Res Vl):Prop:=∃ls:List (List Nat),R=.ok (.m (.lst (ls.map fun l=>.str (tx l)))) h/\ls.length=many.toNat/\∀l∈ls,yX l=true
def Pre (l:List Nat) (j:Nat):Prop:=l.length=j/\(∀c∈l,(small c || yO c)=true)/\(0<j->small (l.headD 0)=true)
def QO:tx abc++tx [48,49,50,51,52,53,54,55,56,57]=tx abc9:=by rw[DC];rfl
def Ia {s:S3} {h:H3} {i j:Str} (hl:i.length+j.length<=sizeLine):zf s h (.x (.str i)) (.x (.str j))=some (.v (.str (i++j))):=by
 unfold zf qs DX oI DZ;simp only[Aa hl]
def QP {x0 x1 x3 x5 x9:Option Vl} {c at_ k:Int} {J:Int} {l:List Nat} (hl:Pre l J.toNat) (hj:0<=J/\J<8) (hk:0<=k/\k<=10) (h:H3):
  ∃l' y9,Pre l' (J.toNat+1)/\gb (gN 8) (sSeq (sSet 9 (eOp zf (pE (eOp zB (pV 0) (pE (eOp zf (kJ 64) (pE (eOp yt (kJ 29) (pV 8))))))) (pE (eOp yt (pV 6) (pE (eB bInt (aCons (pE (eOp zD (pV 8) (pV 4))) aNil))))))) (sIf (tE (eOp zD (pV 8) (kJ 0))) (sSet 7 (eOp zf (pV 7) (pE (eOp zJ (pV 2) (pE (eOp zj (pV 9) (kJ 26))))))) (sSet 7 (eOp zf (pV 7) (pE (eOp zJ (pE (eOp zf (pV 2) (pE (eC (.str ("0123456789" :Str)))))) (pE (eOp zj (pV 9) (kJ 36))))))))) (.int J) [some (.v (.int c)),x1,some (.v (.str (tx abc))),x3,some (.v (.int at_)),x5,some (.v (.int k)),some (.v (.str (tx l))),x0,x9] h
   =.nx [some (.v (.int c)),x1,some (.v (.str (tx abc))),x3,some (.v (.int at_)),x5,some (.v (.int k)),some (.v (.str (tx l'))),some (.v (.int J)),y9] h:=by
 obtain⟨h1,h2,h3⟩:=hl;have c1:CMul 29 J:=Eb ⟨by decide,by decide⟩
 have c2:CDiv c (64+29*J):=⟨by lia,by lia⟩
 have c3:∀x,CMul k x:=fun x=>Eb ⟨by lia,by lia⟩
 have s26:abc.length<=sizeLine:=by decide
 have s36:abc9.length<=sizeLine:=by decide
 have lk:(tx l).length+1<=sizeLine:=by rw[zP];have:=zW;lia
 have l1:∀c,(tx [c]).length=1:=fun c=>by rw[zP];rfl
 have l36:(tx abc).length+(tx [48,49,50,51,52,53,54,55,56,57]).length<=sizeLine:=by decide
 have ed:∀s h,zB s h (.x (.int c)) (.x (.int (64+29*J)))=some (.v (.int (c / (64+29*J)))):=fun s h=>by unfold zB oI;simp only[Aa c2];rfl
 have ea:∀s h c,zf s h (.x (.str (tx l))) (.x (.str (tx [c])))=some (.v (.str (tx l++tx [c]))):=fun s h c=>Ia (by rw[l1];exact lk)
 have eb:∀s h,zf s h (.x (.str (tx abc))) (.x (.str (tx [48,49,50,51,52,53,54,55,56,57])))=some (.v (.str (tx abc9))):=fun s h=>by rw[Ia l36,QO]
 generalize hv:c / (64+29*J)+k*(if J=at_ then 1 else 0)=v
 by_cases hj0:J=0
 .have t0:J.toNat=0:=by lia
  refine⟨l++[ch (v%26)],some (.v (.int v)),⟨by simp[h1],fun c hc=>?_,fun _=>?_⟩,?_⟩
  .rcases A0.mp hc with hc|hc
   .exact h2 c hc
   .rw[Ay]at hc
    subst hc;obtain⟨m,hm⟩:=Cb (show 0<=v%26 by lia)
    rw[hm];exact Kr m (by lia)
  .have e:l=[]:=Dm (h1.trans t0)
   subst e;obtain⟨m,hm⟩:=Cb (show 0<=v%26 by lia)
   show small (ch (v%26))=true;rw[hm];exact Qf m (by lia)
  .have j0:(J=0)=True:=eq_true hj0
   rw[<-DC]
   (simp![c1,ed,c3,oEq_int,hv,DE,s26,Qe,ea,j0])<;>rfl
 .have j0:(J=0)=False:=eq_false hj0
  refine⟨l++[ch (v%36)],some (.v (.int v)),⟨by simp[h1],fun c hc=>?_,fun _=>?_⟩,?_⟩
  .rcases A0.mp hc with hc|hc
   .exact h2 c hc
   .rw[Ay]at hc
    subst hc;obtain⟨m,hm⟩:=Cb (show 0<=v%36 by lia)
    rw[hm];exact Kr m (by lia)
  .have:=h3 (by lia)
   cases l with
   |nil=>exact absurd h1 (by show ¬0=_;lia)
   |cons a r=>exact this
  .rw[<-DC]
   (simp![c1,ed,c3,oEq_int,hv,DE,s36,Qd,ea,eb,j0,Ex])<;>rfl
abbrev sN (c m sz at_:Int) (ls:List (List Nat)) (x6 x7 x8 x9:Option Vl):S3:=[some (.v (.int c)),some (.v (.int m)),some (.v (.str (tx abc))),some (.v (.int sz)),some (.v (.int at_)),some (.m (.lst (ls.map fun l=>.str (tx l)))),x6,x7,x8,x9]
def QQ {c m sz at_ k:Int} {ls:List (List Nat)} (hs:1<=sz/\sz<=8) (hk:0<=k/\k<=10) (h:H3) {x8 x9:Option Vl}:
  ∃l y8 y9,Pre l sz.toNat/\Hi (sN c m sz at_ ls (some (.v (.int k))) (some (.v (.str (tx [])))) x8 x9) h=.nx (sN c m sz at_ ls (some (.v (.int k))) (some (.v (.str (tx l)))) y8 y9) h:=by
 have ei:=Ko (a:=(aCons (pV 3) aNil)) (s:=sN c m sz at_ ls (some (.v (.int k))) (some (.v (.str (tx [])))) x8 x9) (h:=h) (j:=sz) (by (simp![])<;>rfl) (by lia)
 obtain⟨s',h',e,l,y8,y9,p,rfl,rfl⟩:=Gv (g:=gN 8) (l:=List.range sz.toNat) (enc:=fun j:Nat=>V3.int (j:Int)) (its:=[]) (ok:=fun _=>True) ei (fun i s h'=> ∃l y8 y9,Pre l i/\s=sN c m sz at_ ls (some (.v (.int k))) (some (.v (.str (tx l)))) y8 y9/\h'=h) (fun _ _ _ _=>trivial) ⟨[],x8,x9,⟨rfl,(fun c hc=>by cases hc),(fun z=>absurd z (by lia))⟩,rfl,rfl⟩ (by
  rintro i j s h' hi ⟨l,y8,y9,p,rfl,rfl⟩;have hj:=B6.mp (Al hi);have hij:j=i:=by
   obtain⟨h1,h2⟩:=As.mp hi;rw[List.getElem_range]at h2;exact h2.symm
  subst hij;obtain⟨l',z9,p',e⟩:=QP (x0:=y8) (x9:=y9) (c:=c) (at_:=at_) (J:=(j:Int)) (k:=k) (x1:=some (.v (.int m))) (x3:=some (.v (.int sz))) (x5:=some (.m (.lst (ls.map fun l=>.str (tx l))))) (l:=l) (by rw[Dw];exact p) (by lia) hk h'
  rw[Dw]at p';exact⟨_,_,e,l',_,z9,p',rfl,rfl⟩)
 rw[Dq]at p;exact⟨l,y8,y9,p,e⟩
def QV {l:List Nat} {n:Nat} (p:Pre l n) (h1:1<=n/\n<=8):yX l=true:=by
 obtain⟨a,b,c⟩:=p;unfold yX;rw[Bg (show 1<=l.length by lia),Bg (show l.length<=8 by lia),c (by lia)]
 simpa using b
def QW (c m:Int) (hm:0<=m/\m<=10) (h:H3):QN m h (Fc [.int c,.int m] h):=by
 unfold Fc Hk Hj
 refine BO rfl ?_
 refine zF (by (simp![DD])<;>rfl) ?_
 refine zF (by (simp![])<;>rfl) ?_
 generalize hz:1+c%8=sz;have hs:1<=sz/\sz<=8:=by lia
 have sp:0<sz:=by lia
 refine zF (by (simp![sp])<;>rfl) ?_
 generalize c / 8%sz=at_
 refine zF (by (simp![])<;>rfl) ?_
 refine Og (j:=m) (by simp![]) (by lia) (fun i s=> ∃ls x6 x7 x8 x9,s=sN c m sz at_ ls x6 x7 x8 x9/\ls.length=i/\∀l∈ls,yX l=true) ⟨[],none,none,none,none,rfl,rfl,by simp⟩ ?_ ?_
 .rintro i s hi ⟨ls,x6,x7,x8,x9,rfl,hl,hn⟩
  obtain⟨l,y8,y9,p,e⟩:=QQ (c:=c) (m:=m) (at_:=at_) (ls:=ls) (k:=(i:Int)) hs (by lia) h (x8:=x8) (x9:=x9)
  have ap:qk (ls.map fun l=>V3.str (tx l)) [.str (tx l)]=some ((ls.map fun l=>V3.str (tx l))++[.str (tx l)],.non):=mAppend_ok (by rw[Ah];have:=zW;lia)
  have t0:("" :Str)=tx []:=PJ;unfold sN at e ⊢
  refine⟨_,by (simp![t0,e,ap])<;>rfl,ls++[l],_,_,_,_,by rw[B5];rfl,by simp[hl],fun q hq=>?_⟩
  rcases A0.mp hq with hq|hq
  .exact hn q hq
  .rw[Ay]at hq;subst hq;exact QV p (by lia)
 .rintro s ⟨ls,x6,x7,x8,x9,rfl,hl,hn⟩
  refine⟨ls,by (simp![])<;>rfl,hl,hn⟩
def Ib {α:Type} (f:α->List Nat) (l:List α):mapO str3 (l.map fun a=>V3.str (tx (f a)))=some ((l.map f).map tx):=by
 rw[Cc];exact GU (f:=str3) (g:=fun a=>V3.str (tx (f a))) (k:=fun a=>tx (f a)) (fun _=>rfl) l
theorem Ic {a:List Nat} {B:Nat}:∀{ls:List (List Nat)},(∀l∈ls,l.length<=B)->(jn a ls).length<=ls.length*(B+a.length)
 | [],_=>by simp[jn]
 | [l],h=>by
  have:=h l An;show l.length<=1*_;lia
 |l::x::r,h=>by
  have h1:=h l An;have h2:=Ic (a:=a) (B:=B) (ls:=x::r) fun q hq=>h q (Av _ hq)
  rw[HJ (by simp),Am,Am,A9,Nat.add_mul]
  lia
theorem KN {B:Nat}:∀{ls:List (List Nat)},(∀l∈ls,l.length<=B)->((ls.map tx).map (·.length)).sum<=ls.length*B
 | [],_=>by simp
 |l::r,h=>by
  have h1:=h l An;have h2:=KN (B:=B) (ls:=r) fun q hq=>h q (Av _ hq)
  rw[Ax,Ax,List.sum_cons,zP,A9,Nat.add_mul];lia
def QY {a:List Nat} {B:Nat} {ls:List (List Nat)} (h:∀l∈ls,l.length<=B) (hn:ls.length<=1000) (hB:B+a.length<=10000):((ls.map tx).map (·.length)).sum+(ls.map tx).length*(tx a).length<=16777216:=by
 have h1:=KN h;rw[Ah,zP];have h2:ls.length*B+ls.length*a.length=ls.length*(B+a.length):=by rw[Nat.mul_add]
 have h3:ls.length*(B+a.length)<=1000*10000:=Nat.mul_le_mul hn hB;lia
def CB:(" " :Str)=tx [32]:=by decide+kernel
def G5:("; " :Str)=tx [59,32]:=by decide+kernel
def KO {p:P3} {a:A3} {s:S3} {h:H3} {z:List Nat} {g:Rf} {xs:List V3} {ls:List (List Nat)} {B:Nat} (ep:p s h=.ok (.x (.str (tx z))) h) (ea:a s h=.ok [g] h) (er:rdl s h g=some xs) (em:mapO str3 xs=some (ls.map tx))
  (hl:∀l∈ls,l.length<=B) (hn:ls.length<=1000) (hB:B+z.length<=10000):AD p a s h=.ok (.v (.str (tx (jn z ls)))) h:=by
 unfold AD;simp only[ep,Res.bind,ea,er,em,Aa (QY hl hn hB),HK]
abbrev yd (r:List (List Nat)):V3:= .lst (r.map fun w=>.str (tx w))
def RwOk (rs:List (List (List Nat))):Prop:=rs.length<=5/\∀r∈rs,r.length<=5/\∀w∈r,w.length<=40
def QT (h:H3) (R:Res Vl):Prop:=∃T:List Nat,T.length<=2000/\R=.ok (.v (.str (tx T))) h
def QZ {rs:List (List (List Nat))} (hr:RwOk rs) (h:H3) {x1:Option Vl}:Fe [some (.v (.lst (rs.map yd))),x1] h=.ok (.m (.lst (rs.map fun r=>.str (tx (jn [32] r))))) h:=by
 unfold Fe
 refine HM (l:=rs) (x:= .lst (rs.map yd)) (enc:=yd) (fun s=> ∃a,s=[a]) (fun r=>.str (tx (jn [32] r))) (by simp![]) rfl (by have:=hr.1;lia) ⟨none,rfl⟩ ?_
 rintro r s hm ⟨a,rfl⟩;obtain⟨h1,h2⟩:=hr.2 r hm;have e:=KO (p:=pE (eC (.str (" " :Str)))) (a:=aCons (pV 0) aNil) (s:=[some (.v (yd r))]) (h:=h) (z:=[32]) (g:= .x (yd r)) (xs:=r.map fun w=>.str (tx w)) (ls:=r) (B:=40) (by (simp![CB])<;>rfl) (by simp![]) rfl (by have q:=Ib id r;rw[List.map_id]at q;exact q) h2 (by lia) (by decide)
 exact⟨_,_,by (simp![])<;>rfl,⟨_,rfl⟩,by (simp![e])<;>rfl,rfl⟩
def Ra {rs:List (List (List Nat))} (hr:RwOk rs) {k:Int} (hk:k=0\/k=1\/k=2) (h:H3):QT h (AY [.lst (rs.map yd),.int k] h):=by
 by_cases z:rs=[]
 .subst z
  refine⟨[45],by decide,?_⟩
  have oe:=fun (a b:Option Vl)=>Kq (s:=[a,b]) (h:=h) (f:= .x (.lst [])) (xs:=[]) rfl
  (simp![AY,Eg,yZ,oe])<;>rfl
 .have hne:(rs.map yd).isEmpty=false:=by cases rs with|nil=>exact absurd rfl z|cons a r=>rfl
  have oe:=fun (a b:Option Vl)=>Kq (s:=[a,b]) (h:=h) (f:= .x (.lst (rs.map yd))) (xs:=rs.map yd) rfl
  have hb:∀l∈rs.map (jn [32]),l.length<=300:=fun l hl=>by
   obtain⟨r,hm,rfl⟩:=Dc.mp hl;obtain⟨h1,h2⟩:=hr.2 r hm;have:=Ic (a:=[32]) (B:=40) h2;simp at this;lia
  have hn:(rs.map (jn [32])).length<=5:=by rw[Ah];exact hr.1
  have em:mapO str3 (rs.map fun r=>V3.str (tx (jn [32] r)))=some ((rs.map (jn [32])).map tx):=Ib (jn [32]) rs
  have go:∀(sep:List Nat),sep.length<=2->(jn sep (rs.map (jn [32]))).length<=2000:=fun sep hs=>by
   have:=Ic (a:=sep) (B:=300) hb;have m:(rs.map (jn [32])).length*(300+sep.length)<=5*302:=Nat.mul_le_mul hn (by lia)
   lia
  have run:∀(sep:List Nat) (p:P3),sep.length<=2->p [some (.v (.lst (rs.map yd))),some (.v (.int k))] h=.ok (.x (.str (tx sep))) h->AD p (aCons (pE Fe) aNil) [some (.v (.lst (rs.map yd))),some (.v (.int k))] h=.ok (.v (.str (tx (jn sep (rs.map (jn [32])))))) h:=fun sep p hs ep=>
   KO (z:=sep) (g:= .x (.lst (rs.map fun r=>.str (tx (jn [32] r))))) (xs:=rs.map fun r=>.str (tx (jn [32] r))) (ls:=rs.map (jn [32])) (B:=300) ep (by (simp![QZ hr])<;>rfl) rfl em hb (by lia) (by lia)
  rcases hk with rfl|rfl|rfl
  .refine⟨_,go [32] (by decide),?_⟩
   have e:=run [32] (pE (eOp zJ (pE (eLst (aCons (pE (eC (.str (" " :Str)))) (aCons (pE (eC (.str ("; " :Str)))) (aCons (pE (eC (.str ("; " :Str)))) aNil))))) (pV 1))) (by decide) (by (simp![CB,G5])<;>rfl)
   (simp![AY,Eg,oe,hne,e])<;>rfl
  .refine⟨_,go [59,32] (by decide),?_⟩
   have e:=run [59,32] (pE (eOp zJ (pE (eLst (aCons (pE (eC (.str (" " :Str)))) (aCons (pE (eC (.str ("; " :Str)))) (aCons (pE (eC (.str ("; " :Str)))) aNil))))) (pV 1))) (by decide) (by (simp![CB,G5])<;>rfl)
   (simp![AY,Eg,oe,hne,e])<;>rfl
  .refine⟨_,go [59,32] (by decide),?_⟩
   have e:=run [59,32] (pE (eOp zJ (pE (eLst (aCons (pE (eC (.str (" " :Str)))) (aCons (pE (eC (.str ("; " :Str)))) (aCons (pE (eC (.str ("; " :Str)))) aNil))))) (pV 1))) (by decide) (by (simp![CB,G5])<;>rfl)
   (simp![AY,Eg,oe,hne,e])<;>rfl
def it (i:Int):List Nat:=if i= -1 then [45,49] else dg i.toNat
def KP {i:Int} (h: -1<=i):Str.ofString (toString i)=tx (it i):=by
 unfold it
 by_cases e:i= -1
 .rw[Aa e,e];exact PU
 .rw[Ab e]
  have:=PQ i.toNat
  rwa [show ((i.toNat:Nat):Int)=i by lia]at this
def Rb {i:Int} (h: -1<=i/\i<10 ^ 11):i.natAbs.log2<1920:=by
 have h1:i.natAbs<2 ^ 40:=by lia
 by_cases z:i.natAbs=0
 .rw[z];decide
 .have:=(Nat.log2_lt z).mpr h1
  lia
def CC {i:Int} (h: -1<=i/\i<10 ^ 11):1<=(it i).length/\(it i).length<=11:=by
 unfold it
 by_cases e:i= -1
 .rw[Aa e];decide
 .rw[Ab e]
  obtain⟨_,a,r,e2,_⟩:=PR i.toNat
  refine⟨by rw[e2];simp,HL 10 i.toNat (by lia)⟩
def E5 {ls:List (List Nat)} {m:Int} (hm:(ls.length:Int)=m) (hp:0<m) (x:Int):∃l∈ls,atI (ls.map fun l=>V3.str (tx l)) (x%m)=some (.str (tx l)):=by
 have h0:0<=x%m:=Int.emod_nonneg _ (by lia)
 have h1:x%m<m:=Int.emod_lt_of_pos _ hp;obtain⟨k,hk⟩:=Cb h0;have hkl:k<ls.length:=by lia
 refine⟨ls[k],List.getElem_mem _,?_⟩
 rw[hk];exact jm (j:=k) (by rw[A2,yq hkl];rfl)
def CD {i:Int} (h: -1<=i/\i<10 ^ 11) (s:S3) (H:H3):yP s H [.x (.int i)]=some (.v (.str (tx (it i)))):=by
 show (if i.natAbs.log2<1920 then some (Vl.v (.str (Str.ofString (toString i)))) else none)=_
 rw[Aa (Rb h),KP h.1]
def rsB:D3:=(sSeq (sSet 6 (eOp zf (pE (eOp zB (pV 0) (pE (eOp zf (kJ 5) (pE (eOp yt (kJ 2) (pV 5))))))) (pE (eOp yt (kJ 7) (pV 5))))) (sSeq (sSet 7 (eOp zJ (pV 2) (pE (eOp zj (pV 6) (pE (eB bLen (aCons (pV 2) aNil))))))) (sIf (tE (eOp zD (pV 1) (kJ 0))) (sSeq (qI qk (pV 3) (aCons (pE (eLst (aCons (pE (eOp zf (pE (eOp zf (pE (eB yP (aCons (pV 4) aNil))) (pE (eC (.str ("-" :Str)))))) (pE (eB yP (aCons (pE (eOp zf (pV 4) (pE (eOp zj (pV 6) (kJ 4))))) aNil))))) aNil))) aNil)) (sSet 4 (eOp zf (pE (eOp zf (pV 4) (pE (eOp zj (pV 6) (kJ 4))))) (pE (eOp zJ (pE (eLst (aCons (kJ 2) (aCons (kJ 3) (aCons (kJ 4) (aCons (kJ 2) (aCons (kJ 1) (aCons (kJ 0) aNil)))))))) (pE (eOp zj (pE (eOp zB (pV 6) (kJ 4))) (kJ 6)))))))) (sIf (tE (eOp zD (pV 1) (kJ 1))) (qI qk (pV 3) (aCons (pE (eLst (aCons (pE (eB yP (aCons (pE (eOp zj (pV 6) (pE (eOp yH (kJ 10) (kJ 11))))) aNil))) (aCons (pE (eB yP (aCons (pE (eOp zj (pE (eOp zB (pV 6) (kJ 7))) (kJ 16))) aNil))) (aCons (pV 7) aNil))))) aNil)) (sSeq (sSet 8 (eOp zJ (pE (eLst (aCons (pE (eB yP (aCons (pE (eOp zj (pE (eOp zB (pV 6) (kJ 5))) (pE (eOp yH (kJ 10) (kJ 6))))) aNil))) (aCons (pE (eC (.str ("-1" :Str)))) aNil)))) (pE (eOp zj (pE (eOp zB (pV 6) (kJ 11))) (kJ 2))))) (qI qk (pV 3) (aCons (pE (eLst (aCons (pV 7) (aCons (pE (eB yP (aCons (pE (eOp zj (pV 6) (pE (eOp yH (kJ 10) (kJ 9))))) aNil))) (aCons (pV 8) (aCons (pE (eB yP (aCons (pE (eOp zf (kJ 1) (pE (eOp zj (pV 6) (kJ 60))))) aNil))) (aCons (pE (eB yP (aCons (pE (eOp zf (kJ 1) (pE (eOp zj (pV 6) (kJ 16))))) aNil))) aNil))))))) aNil)))))))
def rs_w:Hq=zw (qC (aCons (pE (eOp zj (pE (eOp zB (pV 0) (kJ 3))) (kJ 4))) aNil)) (gN 5) rsB:=rfl
def KQ {a b:List Nat} (h:a.length+b.length<=1000) (s:S3) (H:H3):zf s H (.x (.str (tx a))) (.x (.str (tx b)))=some (.v (.str (tx (a++b)))):=by
 rw[Ia (by rw[zP,zP];have:=zW;lia),DC]
def Rc {c t K n:Int} (hK:K=0\/K=1\/K=2) (ht:0<=t/\t<=2000000) {names:List (List Nat)} (hn:(names.length:Int)=n) (hp:0<n) (hl:n<=10) {acc:List V3} (ha:acc.length<=10) {y5 y6 y7 y8:Option Vl} (h:H3):
  ∃(w:List Nat) (t':Int) (z6 z7:Option Vl),w.length<=40/\(t<=t'/\t'<=t+10)/\
   gb (gN 5) rsB (.int K) [some (.v (.int c)),some (.v (.int 0)),some (.v (.lst (names.map fun l=>.str (tx l)))),some (.m (.lst acc)),some (.v (.int t)),y5,y6,y7,y8] h=.nx [some (.v (.int c)),some (.v (.int 0)),some (.v (.lst (names.map fun l=>.str (tx l)))),some (.m (.lst (acc++[yd [w]]))),some (.v (.int t')),some (.v (.int K)),z6,z7,y8] h:=by
 have hm:acc.length<sizeLine:=by have:=zW;lia
 have nl:names.length<=sizeLine:=by have:=zW;lia
 obtain⟨q,hq⟩:∃q,q=c / (5+2*K)+7*K:=⟨_,rfl⟩;obtain⟨l,_,ea⟩:=E5 hn hp q;have b1:0<=q%4/\q%4<4:=by lia
 have s1:=CD (i:=t) (by lia)
 have s2:=CD (i:=t+q%4) (by lia)
 have g1:=(CC (i:=t) (by lia)).2
 have g2:=(CC (i:=t+q%4) (by lia)).2
 have k1:=KQ (a:=it t) (b:=[45]) (by simp;lia)
 have k2:=KQ (a:=it t++[45]) (b:=it (t+q%4)) (by simp;lia)
 obtain⟨d,hd,ed⟩:∃d:Int,(0<=d/\d<=4)/\atI [V3.int 2,V3.int 3,V3.int 4,V3.int 2,V3.int 1,V3.int 0] (q / 4%6)=some (.int d):=by
  have h0:0<=q / 4%6/\q / 4%6<6:=by lia
  generalize q / 4%6=r at h0;have:r=0\/r=1\/r=2\/r=3\/r=4\/r=5:=by lia
  rcases this with rfl|rfl|rfl|rfl|rfl|rfl
  .exact⟨2,by lia,rfl⟩
  .exact⟨3,by lia,rfl⟩
  .exact⟨4,by lia,rfl⟩
  .exact⟨2,by lia,rfl⟩
  .exact⟨1,by lia,rfl⟩
  .exact⟨0,by lia,rfl⟩
 refine⟨it t++[45]++it (t+q%4),t+q%4+d,some (.v (.int q)),some (.v (.str (tx l))),by simp;lia,by lia,?_⟩
 have cm1:CMul 2 K:=by rcases hK with rfl|rfl|rfl<;>decide
 have cm2:CMul 7 K:=by rcases hK with rfl|rfl|rfl<;>decide
 have dv:0<5+2*K:=by lia
 have dp:5+2*K<1073741824:=by lia
 have ov:=fun (s:S3) (h:H3)=>oDiv_int (s:=s) (h:=h) (i:=c) dv dp
 subst hq;have s6:6<=sizeLine:=by have:=zW;lia
 (simp![rsB,cm1,cm2,ov,hn,hp,nl,Ah,ea,yZ,s1,s2,k1,k2,ed,s6,mAppend_ok hm])<;>rfl
def p11:CPow 10 11:=by decide
def p9:CPow 10 9:=by decide
def p6:CPow 10 6:=by decide
def v11:(10:Int) ^ (11:Int).toNat=100000000000:=by decide
def v9:(10:Int) ^ (9:Int).toNat=1000000000:=by decide
def v6:(10:Int) ^ (6:Int).toNat=1000000:=by decide
def Re {c t K n:Int} (hK:K=0\/K=1\/K=2) {names:List (List Nat)} (hs:∀l∈names,l.length<=8) (hn:(names.length:Int)=n) (hp:0<n) (hl:n<=10) {acc:List V3} (ha:acc.length<=10) {y5 y6 y7 y8:Option Vl} (h:H3):
  ∃(r:List (List Nat)) (z6 z7:Option Vl),(r.length<=5/\∀w∈r,w.length<=40)/\
   gb (gN 5) rsB (.int K) [some (.v (.int c)),some (.v (.int 1)),some (.v (.lst (names.map fun l=>.str (tx l)))),some (.m (.lst acc)),some (.v (.int t)),y5,y6,y7,y8] h=.nx [some (.v (.int c)),some (.v (.int 1)),some (.v (.lst (names.map fun l=>.str (tx l)))),some (.m (.lst (acc++[yd r]))),some (.v (.int t)),some (.v (.int K)),z6,z7,y8] h:=by
 have hm:acc.length<sizeLine:=by have:=zW;lia
 have nl:names.length<=sizeLine:=by have:=zW;lia
 obtain⟨q,hq⟩:∃q,q=c / (5+2*K)+7*K:=⟨_,rfl⟩;obtain⟨l,hl0,ea⟩:=E5 hn hp q;have s1:=CD (i:=q%100000000000) (by lia)
 have s2:=CD (i:=q / 7%16) (by lia)
 have g1:=(CC (i:=q%100000000000) (by lia)).2
 have g2:=(CC (i:=q / 7%16) (by lia)).2
 have g3:=hs l hl0
 refine⟨[it (q%100000000000),it (q / 7%16),l],some (.v (.int q)),some (.v (.str (tx l))),⟨by simp,fun w hw=>?_⟩,?_⟩
 .simp only[Ae,A7,Az]at hw
  rcases hw with rfl|rfl|rfl<;>lia
 have cm1:CMul 2 K:=by rcases hK with rfl|rfl|rfl<;>decide
 have cm2:CMul 7 K:=by rcases hK with rfl|rfl|rfl<;>decide
 have dv:0<5+2*K:=by lia
 have dp:5+2*K<1073741824:=by lia
 have ov:=fun (s:S3) (h:H3)=>oDiv_int (s:=s) (h:=h) (i:=c) dv dp
 have s3:3<=sizeLine:=by have:=zW;lia
 have pp:(0:Int)<100000000000:=by decide
 subst hq
 (simp![rsB,cm1,cm2,ov,hn,hp,nl,Ah,ea,s1,s2,p11,v11,pp,s3,mAppend_ok hm])<;>rfl
def Rg {c t K n:Int} (hK:K=0\/K=1\/K=2) {names:List (List Nat)} (hs:∀l∈names,l.length<=8) (hn:(names.length:Int)=n) (hp:0<n) (hl:n<=10) {acc:List V3} (ha:acc.length<=10) {y5 y6 y7 y8:Option Vl} (h:H3):
  ∃(r:List (List Nat)) (z6 z7 z8:Option Vl),(r.length<=5/\∀w∈r,w.length<=40)/\
   gb (gN 5) rsB (.int K) [some (.v (.int c)),some (.v (.int 2)),some (.v (.lst (names.map fun l=>.str (tx l)))),some (.m (.lst acc)),some (.v (.int t)),y5,y6,y7,y8] h=.nx [some (.v (.int c)),some (.v (.int 2)),some (.v (.lst (names.map fun l=>.str (tx l)))),some (.m (.lst (acc++[yd r]))),some (.v (.int t)),some (.v (.int K)),z6,z7,z8] h:=by
 have hm:acc.length<sizeLine:=by have:=zW;lia
 have nl:names.length<=sizeLine:=by have:=zW;lia
 obtain⟨q,hq⟩:∃q,q=c / (5+2*K)+7*K:=⟨_,rfl⟩;obtain⟨l,hl0,ea⟩:=E5 hn hp q;have s1:=CD (i:=q%1000000000) (by lia)
 have s2:=CD (i:=q / 5%1000000) (by lia)
 have s4:=CD (i:=1+q%60) (by lia)
 have s5:=CD (i:=1+q%16) (by lia)
 have g1:=(CC (i:=q%1000000000) (by lia)).2
 have g2:=(CC (i:=q / 5%1000000) (by lia)).2
 have g4:=(CC (i:=1+q%60) (by lia)).2
 have g5:=(CC (i:=1+q%16) (by lia)).2
 have g3:=hs l hl0;obtain⟨d,hd,ed⟩:∃d:List Nat,d.length<=11/\atI [V3.str (tx (it (q / 5%1000000))),V3.str (tx [45,49])] (q / 11%2)=some (.str (tx d)):=by
  have:q / 11%2=0\/q / 11%2=1:=by lia
  rcases this with e|e<;>rw[e]
  .exact⟨_,g2,rfl⟩
  .exact⟨[45,49],by decide,rfl⟩
 refine⟨[l,it (q%1000000000),d,it (1+q%60),it (1+q%16)],some (.v (.int q)),some (.v (.str (tx l))),some (.v (.str (tx d))),⟨by simp,fun w hw=>?_⟩,?_⟩
 .simp only[Ae,A7,Az]at hw
  rcases hw with rfl|rfl|rfl|rfl|rfl<;>lia
 have cm1:CMul 2 K:=by rcases hK with rfl|rfl|rfl<;>decide
 have cm2:CMul 7 K:=by rcases hK with rfl|rfl|rfl<;>decide
 have dv:0<5+2*K:=by lia
 have dp:5+2*K<1073741824:=by lia
 have ov:=fun (s:S3) (h:H3)=>oDiv_int (s:=s) (h:=h) (i:=c) dv dp
 have s3:5<=sizeLine:=by have:=zW;lia
 have s7:2<=sizeLine:=by have:=zW;lia
 have pp:(0:Int)<1000000000:=by decide
 have pq:(0:Int)<1000000:=by decide
 subst hq
 (simp![rsB,cm1,cm2,ov,hn,hp,nl,Ah,ea,s1,s2,s4,s5,qL,ed,p9,v9,p6,v6,pp,pq,s3,s7,mAppend_ok hm])<;>rfl
def QR (h:H3) (R:Res Vl):Prop:=∃rs:List (List (List Nat)),RwOk rs/\R=.ok (.m (.lst (rs.map yd))) h
def RwOk.snoc {rs:List (List (List Nat))} {r:List (List Nat)} (h:∀r∈rs,r.length<=5/\∀w∈r,w.length<=40) (hr:r.length<=5/\∀w∈r,w.length<=40):∀x∈rs++[r],x.length<=5/\∀w∈x,w.length<=40:=fun x hx=>by
 rcases A0.mp hx with z|z
 .exact h x z
 .rw[Ay.mp z];exact hr
def Rh {c k:Int} (hk:k=0\/k=1\/k=2) {names:List (List Nat)} (hs:∀l∈names,l.length<=8) (hp:0<names.length) (hl:names.length<=10) (h:H3):QR h (CW [.int c,.int k,.lst (names.map fun l=>.str (tx l))] h):=by
 have pq:(0:Int)<1000000:=by decide
 have r4:0<=c / 3%4/\c / 3%4<4:=by lia
 have q1: -(2 ^ 62)<=c / 3%4/\c / 3%4<2 ^ 62:=by lia
 unfold CW Hr;rw[rs_w]
 refine BO rfl ?_
 refine zF (by (simp![])<;>rfl) ?_
 refine zF (by (simp![p6,v6,pq])<;>rfl) ?_
 refine it_E (l:=List.range (c / 3%4).toNat) (enc:=fun j:Nat=>V3.int (0+(j:Nat))) (its:=[]) (ok:=fun _=>True) (by (simp![qC,Aa q1])<;>rfl) (fun i s h'=>h'=h/\∃(rs:List (List (List Nat))) (t:Int) (y5 y6 y7 y8:Option Vl),s=[some (.v (.int c)),some (.v (.int k)),some (.v (.lst (names.map fun l=>.str (tx l)))),some (.m (.lst (rs.map yd))),some (.v (.int t)),y5,y6,y7,y8]/\rs.length=i/\(0<=t/\t<=1000000+10*(i:Int))/\∀r∈rs,r.length<=5/\∀w∈r,w.length<=40) (fun _ _ _ _=>trivial) ⟨rfl,[],c%1000000,none,none,none,none,rfl,rfl,by lia,fun r hr=>nomatch hr⟩ ?_ ?_
 .rintro i j s h' hj ⟨rfl,rs,t,y5,y6,y7,y8,rfl,hn,ht,hr⟩
  have hi:i<(c / 3%4).toNat:=by have:=(As.mp hj).1;simpa using this
  have ej:j=i:=by rw[Cu hi]at hj;cases hj;rfl
  subst ej;have hK:(0+(j:Nat):Int)=0\/(0+(j:Nat):Int)=1\/(0+(j:Nat):Int)=2:=by lia
  rcases hk with rfl|rfl|rfl
  .obtain⟨w,t',z6,z7,hw,ht',e⟩:=Rc (c:=c) (t:=t) hK (by lia) (names:=names) rfl (by lia) (by lia) (acc:=rs.map yd) (by rw[Ah];lia) (y5:=y5) (y6:=y6) (y7:=y7) (y8:=y8) h'
   exact .inl ⟨_,_,.inl e,rfl,rs++[[w]],t',_,z6,z7,y8,by rw[B5];rfl,by simp;lia,by lia,RwOk.snoc hr ⟨by simp,fun x hx=>by rw[Ay.mp hx];exact hw⟩⟩
  .obtain⟨r,z6,z7,hw,e⟩:=Re (c:=c) (t:=t) hK (names:=names) hs rfl (by lia) (by lia) (acc:=rs.map yd) (by rw[Ah];lia) (y5:=y5) (y6:=y6) (y7:=y7) (y8:=y8) h'
   exact .inl ⟨_,_,.inl e,rfl,rs++[r],t,_,z6,z7,y8,by rw[B5];rfl,by simp;lia,by lia,RwOk.snoc hr hw⟩
  .obtain⟨r,z6,z7,z8,hw,e⟩:=Rg (c:=c) (t:=t) hK (names:=names) hs rfl (by lia) (by lia) (acc:=rs.map yd) (by rw[Ah];lia) (y5:=y5) (y6:=y6) (y7:=y7) (y8:=y8) h'
   exact .inl ⟨_,_,.inl e,rfl,rs++[r],t,_,z6,z7,z8,by rw[B5];rfl,by simp;lia,by lia,RwOk.snoc hr hw⟩
 .rintro s h' ⟨rfl,rs,t,y5,y6,y7,y8,rfl,hn,ht,hr⟩
  rw[Dq]at hn;exact⟨rs,⟨by lia,hr⟩,by (simp![])<;>rfl⟩
def W (ls:List (List Nat)):Nat:=(ls.map fun l=>l.length+1).sum
def BF (l:List Nat) (r:List (List Nat)):W (l::r)=l.length+1+W r:=by unfold W;simp
def E6 (a b:List (List Nat)):W (a++b)=W a+W b:=by unfold W;simp
def KR (k:Nat) (ls:List (List Nat)):W (ls.take k)+W (ls.drop k)=W ls:=by rw[<-E6,List.take_append_drop]
theorem G6 (x:List Nat):∀(k:Nat) (ls:List (List Nat)),W (ls.set k x)<=W ls+x.length+1
 |_,[]=>by rw[List.set_nil];lia
 |0,l::r=>by rw[Dt,BF,BF];lia
 |k+1,l::r=>by rw[Du,BF,BF];have:=G6 x k r;lia
theorem jn_W:∀ls:List (List Nat),ls≠[]->(jn [32] ls).length+1=W ls
 | [],h=>absurd rfl h
 | [l],_=>by rw[BF];show l.length+1=_;unfold W;simp
 |l::x::r,_=>by
  have:=jn_W (x::r) (by simp)
  rw[HJ (by simp),BF,Am,Am]
  simp only[A9,Cn];lia
def Ri (ls:List (List Nat)):(jn [32] ls).length<=W ls:=by
 by_cases h:ls=[]
 .subst h;simp[jn]
 .have:=jn_W ls h;lia
def Rj (y:Str) (t:List Nat):(zt y t).map tx=PySem.Txt.split (tx t) y:=by
 unfold zt;rw[Cc]
 conv=>rhs;rw[<-List.map_id (PySem.Txt.split (tx t) y)]
 exact List.map_congr_left fun z _=>zjh z
def Rk (t:List Nat):W (zt (" " :Str) t)=t.length+1:=by
 have h1:=HK [32] (zt (" " :Str) t);have h2:=PySem.StrLaws.join_split (tx t) (tx [32]);rw[Rj,CB]at h1;rw[<-PySem.StrLaws.glued_eq_join]at h2;have h3:tx t=tx (jn [32] (zt (tx [32]) t)):=h2.symm.trans h1;have h4:=Eu h3;rw[CB,<-jn_W _ (by intro z;have:=(qS (tx [32]) t).2.1;rw[z]at this;simp at this),<-h4]
theorem KS:∀ls:List (List Nat),((ls.map tx).map (·.length)).sum+ls.length=W ls
 | []=>rfl
 |l::r=>by
  have:=KS r;rw[BF,Ax,Ax,List.sum_cons,A9,zP];lia
abbrev enc (l:List Nat):V3:= .str (tx l)
def Rl {p:P3} {a:A3} {s:S3} {h:H3} {g:Rf} {ls:List (List Nat)} (ep:p s h=.ok (.x (.str (tx [32]))) h) (ea:a s h=.ok [g] h) (er:rdl s h g=some (ls.map enc)) (hW:W ls<=100000):AD p a s h=.ok (.v (.str (tx (jn [32] ls)))) h:=by
 have em:L3.mapO str3 (ls.map enc)=some (ls.map tx):=by
  have q:=Ib id ls;rw[List.map_id]at q;exact q
 have hs:((ls.map tx).map (·.length)).sum+(ls.map tx).length*(tx [32]).length<=16777216:=by
  have:=KS ls;rw[Ah,zP];simp only[A9,Cn];lia
 unfold AD;simp only[ep,Res.bind,ea,er,em,Aa hs,HK]
def G7 {s:S3} {h:H3} {l:List Nat} {a:Int} (ha:0<=a) (hl:l.length<=100000):oSl s h none (some a) (.x (.str (tx l)))=some (.v (.str (tx (l.take a.toNat)))):=by
 obtain⟨k,rfl⟩:=Cb ha;exact PM (by have:=zW;lia)
def G8 {s:S3} {h:H3} {l:List Nat} {a:Int} (ha:0<=a) (hl:l.length<=100000):oSl s h (some a) none (.x (.str (tx l)))=some (.v (.str (tx (l.drop a.toNat)))):=by
 obtain⟨k,rfl⟩:=Cb ha;exact PN (by have:=zW;lia)
def Rm {s:S3} {h:H3} {l:List Nat} (hl:l.length<=100000):∃w:List Nat,w.length<=l.length/\oSl s h (some (-1)) none (.x (.str (tx l)))=some (.v (.str (tx w))):=by
 have h1:=PySem.Txt.slice_le (tx l) (some (-1)) none;have e:∀z:Str,z.cps.toList.length=z.length:=fun z=>by rw[Bz];rfl
 refine⟨(PySem.Txt.slice (tx l) (some (-1)) none).cps.toList,by rw[e];rw[zP]at h1;exact h1,?_⟩
 rw[zjh];show (if (tx l).length<=sizeLine then _ else _)=_
 rw[Aa (by rw[zP];have:=zW;lia)]
def Rn {α β:Type} (f:α->β) (l:List α) (lo hi:Option Int):zv (l.map f) lo hi=(zv l lo hi).map f:=by
 unfold zv;rw[Ah,List.map_take,List.map_drop]
def Ro (k:Nat) (ls:List (List Nat)):W (ls.take k)<=W ls:=by have:=KR k ls;lia
def Rp (k:Nat) (ls:List (List Nat)):W (ls.drop k)<=W ls:=by have:=KR k ls;lia
def W_sl (ls:List (List Nat)) (lo hi:Option Int):W (zv ls lo hi)<=W ls:=by
 unfold zv;exact Bc (Ro _ _) (Rp _ _)
def DL {s:S3} {h:H3} {i:Nat} {ws:List (List Nat)} {lo hi:Option Int} (e:s[i]? =some (some (.m (.lst (ws.map enc))))):oSl s h lo hi (.s i)=some (.m (.lst ((zv ws lo hi).map enc))):=by
 unfold oSl;simp only[rdl,e,A5];rw[Rn]
def E7 {s:S3} {h:H3} {a b:List (List Nat)} (hl:a.length+b.length<=100000):zf s h (.x (.lst (a.map enc))) (.x (.lst (b.map enc)))=some (.m (.lst ((a++b).map enc))):=by
 unfold zf qs DX oI DZ oCat;simp only[rdm,rdl,Ah];rw[Aa (by have:=zW;lia),B5]
def AJ {s:S3} {h:H3} {a b:List Nat} (hl:a.length+b.length<=100000):zf s h (.x (.str (tx a))) (.x (.str (tx b)))=some (.v (.str (tx (a++b)))):=PL (by have:=zW;lia)
def l21:List Nat:=[48,49,50,51,52,53,54,55,56,57,97,98,122,65,32,45,59,58,43,95,46]
def Rq:("0123456789abzA -;:+_." :Str)=tx l21:=by decide+kernel
def Rr:("\n" :Str)=tx [10]:=by decide+kernel
def Ru:("\t" :Str)=tx [9]:=by decide+kernel
def Ie:("a1" :Str)=tx [97,49]:=by decide+kernel
def G9:("00" :Str)=tx [48,48]:=by decide+kernel
def Ig:("7-9" :Str)=tx [55,45,57]:=by decide+kernel
def GA:(";" :Str)=tx [59]:=by decide+kernel
def tx_e:("" :Str)=tx []:=by decide+kernel
def Rv:("; -" :Str)=tx [59,32,45]:=by decide+kernel
def Rw:("; ; " :Str)=tx [59,32,59,32]:=by decide+kernel
def sgs:List (List Nat):=l21.map (fun c=>[c])++[[10],[9]]
def six1:List (List Nat):=[[45],[48],[97,49],[48,48],[55,45,57],[45,49]]
def six2:List (List Nat):=[[45,49],[45],[48],[55,45,57],[97,49],[48,48]]
def six3:List (List Nat):=[[59,32],[59],[32],[59,32,45],[45],[59,32,59,32]]
def Rx {s:S3} {h:H3}:eOp zf (pE (eB Ec (aCons (pE (eC (.str ("0123456789abzA -;:+_." :Str)))) aNil))) (pE (eLst (aCons (pE (eC (.str ("\n" :Str)))) (aCons (pE (eC (.str ("\t" :Str)))) aNil)))) s h=.ok (.m (.lst (sgs.map enc))) h:=by
 have e1:Ec s h [.x (.str (tx l21))]=some (.m (.lst ((l21.map fun c=>[c]).map enc))):=by
  unfold Ec;dsimp only;rw[Aa (by rw[zP];have:=zW;show 21<=_;lia),HS,Cc]
  rfl
 have e2:=E7 (s:=s) (h:=h) (a:=l21.map fun c=>[c]) (b:=[[10],[9]]) (by decide)
 have e3:([[10],[9]]:List (List Nat)).map enc=[.str (tx [10]),.str (tx [9])]:=rfl;rw[e3]at e2
 (simp![Rq,Rr,Ru,e1,e2])<;>rfl
def Ry {ls:List (List Nat)} {m:Int} (hm:(ls.length:Int)=m) (hp:0<m) {x:Int} (h0:0<=x) (h1:x<m):∃l∈ls,atI (ls.map enc) x=some (.str (tx l)):=by
 obtain⟨l,hl,e⟩:=E5 hm hp x;rw[Int.emod_eq_of_lt h0 h1]at e;exact⟨l,hl,e⟩
def QU (h:H3) (R:Res Vl):Prop:=∃u:List Nat,u.length<=9000/\R=.ok (.v (.str (tx u))) h
abbrev sS (t:List Nat) (c o:Int) (sg:List Nat) (a w:Int) (y6 y7 y8:Option Vl):S3:=[some (.v (.str (tx t))),some (.v (.int c)),some (.v (.int o)),some (.v (.str (tx sg))),some (.v (.int a)),some (.v (.int w)),y6,y7,y8]
def GB {Q:Res Vl->Prop} {a b:D3} {s:S3} {h h1:H3} {v:Vl} (e:a s h=.rt v h1) (q:Q (.ok v h1)):Q ((sSeq a b s h).res):=by unfold sSeq;rw[e];exact q
def Rz {t sg:List Nat} {c o a:Int} (ht:t.length<=2000) (hs:sg.length<=4) (ha:0<=a) (h:H3):
  ∃u:List Nat,u.length<=9000/\sIf (tE (eOp zD (pV 5) (kJ 0))) (sRet (eOp zf (pE (eOp zf (pE (zV (pV 0) yb (zQ (pV 4)))) (pV 3))) (pE (zV (pV 0) (zQ (pV 4)) yb)))) sSkip (sS t c o sg a 0 none none none) h=.rt (.v (.str (tx u))) h:=by
 have s1:=fun s=>G7 (s:=s) (h:=h) (l:=t) ha (by lia)
 have s2:=fun s=>G8 (s:=s) (h:=h) (l:=t) ha (by lia)
 have b1:(t.take a.toNat).length<=2000:=by rw[B2];lia
 have b2:(t.drop a.toNat).length<=2000:=by rw[Cf];lia
 have k1:=fun s=>AJ (s:=s) (h:=h) (a:=t.take a.toNat) (b:=sg) (by lia)
 have k2:=fun s=>AJ (s:=s) (h:=h) (a:=t.take a.toNat++sg) (b:=t.drop a.toNat) (by rw[Am];lia)
 exact⟨t.take a.toNat++sg++t.drop a.toNat,by rw[Am,Am];lia,by (simp![zV,yb,zQ,s1,s2,k1,k2])<;>rfl⟩
def R0 {t sg:List Nat} {c o a:Int} (ht:t.length<=2000) (ha:0<=a) (h:H3):
  ∃u:List Nat,u.length<=9000/\sIf (tE (eOp zD (pV 5) (kJ 1))) (sRet (eOp zf (pE (zV (pV 0) yb (zQ (pV 4)))) (pE (zV (pV 0) (zQ (pE (eOp zf (pV 4) (kJ 1)))) yb)))) sSkip (sS t c o sg a 1 none none none) h=.rt (.v (.str (tx u))) h:=by
 have s1:=fun s=>G7 (s:=s) (h:=h) (l:=t) ha (by lia)
 have s2:=fun s=>G8 (s:=s) (h:=h) (l:=t) (a:=a+1) (by lia) (by lia)
 have b1:(t.take a.toNat).length<=2000:=by rw[B2];lia
 have b2:(t.drop (a+1).toNat).length<=2000:=by rw[Cf];lia
 have k1:=fun s=>AJ (s:=s) (h:=h) (a:=t.take a.toNat) (b:=t.drop (a+1).toNat) (by lia)
 exact⟨t.take a.toNat++t.drop (a+1).toNat,by rw[Am];lia,by (simp![zV,yb,zQ,s1,s2,k1])<;>rfl⟩
def R1 {t sg:List Nat} {c o a:Int} (ht:t.length<=2000) (hs:sg.length<=4) (ha:0<=a) (h:H3):
  ∃u:List Nat,u.length<=9000/\sIf (tE (eOp zD (pV 5) (kJ 2))) (sRet (eOp zf (pE (eOp zf (pE (zV (pV 0) yb (zQ (pV 4)))) (pV 3))) (pE (zV (pV 0) (zQ (pE (eOp zf (pV 4) (kJ 1)))) yb)))) sSkip (sS t c o sg a 2 none none none) h=.rt (.v (.str (tx u))) h:=by
 have s1:=fun s=>G7 (s:=s) (h:=h) (l:=t) ha (by lia)
 have s2:=fun s=>G8 (s:=s) (h:=h) (l:=t) (a:=a+1) (by lia) (by lia)
 have b1:(t.take a.toNat).length<=2000:=by rw[B2];lia
 have b2:(t.drop (a+1).toNat).length<=2000:=by rw[Cf];lia
 have k1:=fun s=>AJ (s:=s) (h:=h) (a:=t.take a.toNat) (b:=sg) (by lia)
 have k2:=fun s=>AJ (s:=s) (h:=h) (a:=t.take a.toNat++sg) (b:=t.drop (a+1).toNat) (by rw[Am];lia)
 exact⟨t.take a.toNat++sg++t.drop (a+1).toNat,by rw[Am,Am];lia,by (simp![zV,yb,zQ,s1,s2,k1,k2])<;>rfl⟩
def z6:6<=sizeLine:=by have:=zW;lia
def atw {ls:List (List Nat)} {xs:List V3} {B:Nat} (he:xs=ls.map enc) (hB:∀l∈ls,l.length<=B) {m:Int} (hm:(ls.length:Int)=m) (hp:0<m) (x:Int):∃l:List Nat,l.length<=B/\atI xs (x%m)=some (.str (tx l)):=by
 obtain⟨l,hl,e⟩:=E5 hm hp x;exact⟨l,hB l hl,by rw[he];exact e⟩
theorem CF:∀ls:List (List Nat),ls.length<=W ls
 | []=>Af _
 |l::r=>by rw[BF,A9];have:=CF r;lia
def R3 {t sg:List Nat} {c o a p:Int} {ws:List (List Nat)} (hW:W ws<=4000) (h:H3):
  ∃us:List (List Nat),W us<=8500/\sIf (tE (eOp zD (pV 5) (kJ 3))) (sSet 6 (eOp zf (pE (eOp zf (pE (zV (pV 6) yb (zQ (pV 7)))) (pE (eLst (aCons (pE (eOp zJ (pE (eLst (aCons (pE (eC (.str ("-" :Str)))) (aCons (pE (eC (.str ("0" :Str)))) (aCons (pE (eC (.str ("a1" :Str)))) (aCons (pE (eC (.str ("00" :Str)))) (aCons (pE (eC (.str ("7-9" :Str)))) (aCons (pE (eC (.str ("-1" :Str)))) aNil)))))))) (pE (eOp zj (pV 2) (kJ 6))))) aNil))))) (pE (zV (pV 6) (zQ (pV 7)) yb)))) sSkip (sS t c o sg a 3 (some (.m (.lst (ws.map enc)))) (some (.v (.int p))) none) h=.nx (sS t c o sg a 3 (some (.m (.lst (us.map enc)))) (some (.v (.int p))) none) h:=by
 obtain⟨x,hx,ex⟩:=atw (ls:=six1) (B:=3) (xs:=[.str (tx [45]),.str (tx [48]),.str (tx [97,49]),.str (tx [48,48]),.str (tx [55,45,57]),.str (tx [45,49])]) rfl (by decide) (m:=6) rfl (by decide) o
 have s1:=DL (s:=sS t c o sg a 3 (some (.m (.lst (ws.map enc)))) (some (.v (.int p))) none) (h:=h) (i:=6) (ws:=ws) (lo:=none) (hi:=some p) rfl;have s2:=DL (s:=sS t c o sg a 3 (some (.m (.lst (ws.map enc)))) (some (.v (.int p))) none) (h:=h) (i:=6) (ws:=ws) (lo:=some p) (hi:=none) rfl;have b1:=W_sl ws none (some p);have b2:=W_sl ws (some p) none;have c1:=CF (zv ws none (some p));have c2:=CF (zv ws (some p) none);have k1:=fun s=>E7 (s:=s) (h:=h) (a:=zv ws none (some p)) (b:=[x]) (by simp;lia)
 have k2:=fun s=>E7 (s:=s) (h:=h) (a:=zv ws none (some p)++[x]) (b:=zv ws (some p) none) (by simp;lia)
 have e1:([x]:List (List Nat)).map enc=[.str (tx x)]:=rfl;rw[e1]at k1
 refine⟨zv ws none (some p)++[x]++zv ws (some p) none,?_,?_⟩
 .rw[E6,E6,BF]
  show W _+(x.length+1+0)+W _<=_;lia
 ·(simp![zV,yb,zQ,s1,s2,k1,k2,yZ,tx_0,Ie,G9,Ig,qL,ex,z6])<;>rfl
def R4 {t sg:List Nat} {c o a p:Int} {ws:List (List Nat)} (hW:W ws<=2500) (h:H3):
  ∃us:List (List Nat),W us<=8500/\sIf (tE (eOp zD (pV 5) (kJ 4))) (sSet 6 (eOp zf (pE (eOp zf (pE (zV (pV 6) yb (zQ (pV 7)))) (pE (zV (pV 6) (zQ (pV 7)) (zQ (pE (eOp zf (pV 7) (kJ 1)))))))) (pE (zV (pV 6) (zQ (pV 7)) yb)))) sSkip (sS t c o sg a 4 (some (.m (.lst (ws.map enc)))) (some (.v (.int p))) none) h=.nx (sS t c o sg a 4 (some (.m (.lst (us.map enc)))) (some (.v (.int p))) none) h:=by
 have s1:=DL (s:=sS t c o sg a 4 (some (.m (.lst (ws.map enc)))) (some (.v (.int p))) none) (h:=h) (i:=6) (ws:=ws) (lo:=none) (hi:=some p) rfl;have s2:=DL (s:=sS t c o sg a 4 (some (.m (.lst (ws.map enc)))) (some (.v (.int p))) none) (h:=h) (i:=6) (ws:=ws) (lo:=some p) (hi:=none) rfl;have s3:=DL (s:=sS t c o sg a 4 (some (.m (.lst (ws.map enc)))) (some (.v (.int p))) none) (h:=h) (i:=6) (ws:=ws) (lo:=some p) (hi:=some (p+1)) rfl;have b1:=W_sl ws none (some p);have b2:=W_sl ws (some p) none;have b3:=W_sl ws (some p) (some (p+1));have c1:=CF (zv ws none (some p));have c2:=CF (zv ws (some p) none);have c3:=CF (zv ws (some p) (some (p+1)));have k1:=fun s=>E7 (s:=s) (h:=h) (a:=zv ws none (some p)) (b:=zv ws (some p) (some (p+1))) (by lia)
 have k2:=fun s=>E7 (s:=s) (h:=h) (a:=zv ws none (some p)++zv ws (some p) (some (p+1))) (b:=zv ws (some p) none) (by rw[Am];lia)
 refine⟨zv ws none (some p)++zv ws (some p) (some (p+1))++zv ws (some p) none,by rw[E6,E6];lia,?_⟩
 (simp![zV,yb,zQ,s1,s2,s3,k1,k2])<;>rfl
def R5 {t sg:List Nat} {c o a p:Int} {ws:List (List Nat)} (hW:W ws<=2500) (h:H3):
  ∃us:List (List Nat),W us<=8500/\sIf (tE (eOp zD (pV 5) (kJ 5))) (sSet 6 (eOp zf (pE (zV (pV 6) yb (zQ (pV 7)))) (pE (zV (pV 6) (zQ (pE (eOp zf (pV 7) (kJ 1)))) yb)))) sSkip (sS t c o sg a 5 (some (.m (.lst (ws.map enc)))) (some (.v (.int p))) none) h=.nx (sS t c o sg a 5 (some (.m (.lst (us.map enc)))) (some (.v (.int p))) none) h:=by
 have s1:=DL (s:=sS t c o sg a 5 (some (.m (.lst (ws.map enc)))) (some (.v (.int p))) none) (h:=h) (i:=6) (ws:=ws) (lo:=none) (hi:=some p) rfl;have s2:=DL (s:=sS t c o sg a 5 (some (.m (.lst (ws.map enc)))) (some (.v (.int p))) none) (h:=h) (i:=6) (ws:=ws) (lo:=some (p+1)) (hi:=none) rfl;have b1:=W_sl ws none (some p);have b2:=W_sl ws (some (p+1)) none;have c1:=CF (zv ws none (some p));have c2:=CF (zv ws (some (p+1)) none);have k1:=fun s=>E7 (s:=s) (h:=h) (a:=zv ws none (some p)) (b:=zv ws (some (p+1)) none) (by lia)
 refine⟨zv ws none (some p)++zv ws (some (p+1)) none,by rw[E6];lia,?_⟩
 (simp![zV,yb,zQ,s1,s2,k1])<;>rfl
def strB {i:Int} (h:0<=i/\i<=100000000000) (s:S3) (H:H3):∃x:List Nat,x.length<=12/\yP s H [.x (.int i)]=some (.v (.str (tx x))):=by
 have h1:i.natAbs.log2<1920:=by
  have h1:i.natAbs<2 ^ 40:=by lia
  by_cases z:i.natAbs=0
  .rw[z];decide
  .have:=(Nat.log2_lt z).mpr h1
   lia
 refine⟨it i,?_,?_⟩
 .unfold it
  rw[Ab (by lia)]
  exact HL 11 i.toNat (by lia)
 .show (if i.natAbs.log2<1920 then some (Vl.v (.str (Str.ofString (toString i)))) else none)=_
  rw[Aa h1,KP (by lia)]
def Ih {ws:List (List Nat)} {p:Int} (h0:0<=p) (h1:p<ws.length):qE (ws.map enc).length p=some p.toNat:=by
 unfold qE;rw[Ah,Aa h0,Aa h1]
def Ii (ws:List (List Nat)) (k:Nat) (x:List Nat):(ws.map enc).set k (.str (tx x))=(ws.set k x).map enc:=by rw[List.map_set]
def R6 {t sg:List Nat} {c o a p:Int} {ws:List (List Nat)} (hW:W ws<=2500) (h0:0<=p) (h1:p<ws.length) (h:H3):
  ∃us:List (List Nat),W us<=8500/\sIf (tE (eOp zD (pV 5) (kJ 6))) (qQ (pV 6) (pV 7) (eOp zf (pE (eB yP (aCons (pE (eOp oSub (pE (eOp yH (kJ 10) (kJ 11))) (pE (eOp zj (pV 2) (kJ 2))))) aNil))) (pE (eOp zJ (pE (eLst (aCons (pE (eC (.str (";" :Str)))) (aCons (pE (eC (.str ("" :Str)))) aNil)))) (pE (eOp zj (pE (eOp zB (pV 2) (kJ 2))) (kJ 2))))))) sSkip (sS t c o sg a 6 (some (.m (.lst (ws.map enc)))) (some (.v (.int p))) none) h=.nx (sS t c o sg a 6 (some (.m (.lst (us.map enc)))) (some (.v (.int p))) none) h:=by
 obtain⟨x,hx,ex⟩:=atw (ls:=[[59],[]]) (B:=1) (xs:=[.str (tx [59]),.str (tx [])]) rfl (by decide) (m:=2) rfl (by decide) (o / 2)
 obtain⟨y,hy,ey⟩:=strB (i:=100000000000-o%2) (by lia) (sS t c o sg a 6 (some (.m (.lst (ws.map enc)))) (some (.v (.int p))) none) h
 have k1:=fun s=>AJ (s:=s) (h:=h) (a:=y) (b:=x) (by lia)
 have r1:rdm (sS t c o sg a 6 (some (.m (.lst (ws.map enc)))) (some (.v (.int p))) none) h (.s 6)=some (ws.map enc):=rfl;have b:=G6 (y++x) p.toNat ws;rw[Am]at b;exact⟨ws.set p.toNat (y++x),by lia,by (simp![qQ,p11,v11,ey,ex,k1,r1,Ih h0 h1,Ii,GA,tx_e])<;>rfl⟩
def R7 {t sg:List Nat} {c o a p:Int} {ws:List (List Nat)} (hW:W ws<=2500) (hl:∀w∈ws,w.length<=2000) (h0:0<=p) (h1:p<ws.length) (h:H3):
  ∃(us:List (List Nat)) (y8:Option Vl),W us<=8500/\sIf (tE (eOp zD (pV 5) (kJ 7))) (sSeq (sSet 8 (zV (pE (eOp zJ (pV 6) (pV 7))) (zQ (pE (eNeg (kJ 1)))) yb)) (qQ (pV 6) (pV 7) (eOp zf (pE (eOp zJ (pE (eLst (aCons (pE (eC (.str ("-1" :Str)))) (aCons (pE (eC (.str ("-" :Str)))) (aCons (pE (eC (.str ("0" :Str)))) (aCons (pE (eC (.str ("7-9" :Str)))) (aCons (pE (eC (.str ("a1" :Str)))) (aCons (pE (eC (.str ("00" :Str)))) aNil)))))))) (pE (eOp zj (pV 2) (kJ 6))))) (pE (eOp Ed (pV 8) (pE (eB bInt (aCons (pE (eOp zD (pV 8) (pE (eC (.str (";" :Str)))))) aNil)))))))) sSkip (sS t c o sg a 7 (some (.m (.lst (ws.map enc)))) (some (.v (.int p))) none) h=.nx (sS t c o sg a 7 (some (.m (.lst (us.map enc)))) (some (.v (.int p))) y8) h:=by
 obtain⟨x,hx,ex⟩:=atw (ls:=six2) (B:=3) (xs:=[.str (tx [45,49]),.str (tx [45]),.str (tx [48]),.str (tx [55,45,57]),.str (tx [97,49]),.str (tx [48,48])]) rfl (by decide) (m:=6) rfl (by decide) o
 obtain⟨w,hw,ew⟩:=Ry (ls:=ws) rfl (by lia) h0 h1
 have hwl:=hl w hw;obtain⟨v,hv,el⟩:=Rm (s:=sS t c o sg a 7 (some (.m (.lst (ws.map enc)))) (some (.v (.int p))) none) (h:=h) (l:=w) (by lia)
 have ox:zJ (sS t c o sg a 7 (some (.m (.lst (ws.map enc)))) (some (.v (.int p))) none) h (.s 6) (.x (.int p))=some (.v (.str (tx w))):=by
  rw[HP];show (atI (ws.map enc) p).map Vl.v=_;rw[ew];rfl
 have r1:rdm (sS t c o sg a 7 (some (.m (.lst (ws.map enc)))) (some (.v (.int p))) (some (.v (.str (tx v))))) h (.s 6)=some (ws.map enc):=rfl
 by_cases z:v=[59]
 .subst z
  have om:∀s,Ed s h (.x (.str (tx [59]))) (.x (.int 1))=some (.v (.str (tx [59]))):=fun s=>rfl
  have k1:=fun s=>AJ (s:=s) (h:=h) (a:=x) (b:=[59]) (by simp;lia)
  have b:=G6 (x++[59]) p.toNat ws;rw[Am]at b;simp only[A9,Cn]at b;exact⟨ws.set p.toNat (x++[59]),some (.v (.str (tx [59]))),by lia,by (simp![qQ,zV,yb,zQ,ox,el,ex,om,k1,r1,Ih h0 h1,Ii,GA,yD,yZ,tx_0,Ie,G9,Ig,qL,z6])<;>rfl⟩
 .have zd:decide (tx v=tx [59])=false:=by rw[jo];exact Aj z
  have om:∀s,Ed s h (.x (.str (tx v))) (.x (.int 0))=some (.v (.str (tx []))):=fun s=>rfl
  have k1:=fun s=>AJ (s:=s) (h:=h) (a:=x) (b:=[]) (by simp;lia)
  have b:=G6 (x++[]) p.toNat ws;rw[Am]at b;simp only[Cn]at b;exact⟨ws.set p.toNat (x++[]),some (.v (.str (tx v))),by lia,by (simp![qQ,zV,yb,zQ,ox,el,ex,om,k1,r1,Ih h0 h1,Ii,GA,yD,zd,yZ,tx_0,Ie,G9,Ig,qL,z6])<;>rfl⟩
def R8 {t sg:List Nat} {c o a:Int} {y6 y7:Option Vl} (ht:t.length<=2000) (ha:0<=a) (h:H3):
  (∃u:List Nat,u.length<=9000/\sIf (tAnd3 (tE (eOp zD (pV 5) (kJ 8))) (tE (eOp jr (pE (eOp zj (pE (eOp zB (pV 1) (kJ 9))) (kJ 3))) (kJ 0)))) (sSeq (sSet 4 (eOp zJ (pE (eLst (aCons (pV 4) (aCons (pE (eB bLen (aCons (pV 0) aNil))) aNil)))) (pE (eOp zj (pE (eOp zB (pV 1) (kJ 27))) (kJ 2))))) (sRet (eOp zf (pE (eOp zf (pE (zV (pV 0) yb (zQ (pV 4)))) (pE (eOp zJ (pE (eLst (aCons (pE (eC (.str ("; " :Str)))) (aCons (pE (eC (.str (";" :Str)))) (aCons (pE (eC (.str (" " :Str)))) (aCons (pE (eC (.str ("; -" :Str)))) (aCons (pE (eC (.str ("-" :Str)))) (aCons (pE (eC (.str ("; ; " :Str)))) aNil)))))))) (pE (eOp zj (pV 2) (kJ 6))))))) (pE (zV (pV 0) (zQ (pV 4)) yb))))) sSkip (sS t c o sg a 8 y6 y7 none) h=.rt (.v (.str (tx u))) h)\/
  sIf (tAnd3 (tE (eOp zD (pV 5) (kJ 8))) (tE (eOp jr (pE (eOp zj (pE (eOp zB (pV 1) (kJ 9))) (kJ 3))) (kJ 0)))) (sSeq (sSet 4 (eOp zJ (pE (eLst (aCons (pV 4) (aCons (pE (eB bLen (aCons (pV 0) aNil))) aNil)))) (pE (eOp zj (pE (eOp zB (pV 1) (kJ 27))) (kJ 2))))) (sRet (eOp zf (pE (eOp zf (pE (zV (pV 0) yb (zQ (pV 4)))) (pE (eOp zJ (pE (eLst (aCons (pE (eC (.str ("; " :Str)))) (aCons (pE (eC (.str (";" :Str)))) (aCons (pE (eC (.str (" " :Str)))) (aCons (pE (eC (.str ("; -" :Str)))) (aCons (pE (eC (.str ("-" :Str)))) (aCons (pE (eC (.str ("; ; " :Str)))) aNil)))))))) (pE (eOp zj (pV 2) (kJ 6))))))) (pE (zV (pV 0) (zQ (pV 4)) yb))))) sSkip (sS t c o sg a 8 y6 y7 none) h=.nx (sS t c o sg a 8 y6 y7 none) h:=by
 by_cases g:0<c / 9%3
 .refine .inl ?_
  obtain⟨x,hx,ex⟩:=atw (ls:=six3) (B:=4) (xs:=[.str (tx [59,32]),.str (tx [59]),.str (tx [32]),.str (tx [59,32,45]),.str (tx [45]),.str (tx [59,32,59,32])]) rfl (by decide) (m:=6) rfl (by decide) o
  obtain⟨b,hb,eb⟩:∃b:Int,0<=b/\atI [V3.int a,V3.int (t.length:Int)] (c / 27%2)=some (.int b):=by
   have h0:0<=c / 27%2/\c / 27%2<2:=by lia
   generalize c / 27%2=r at h0;have:r=0\/r=1:=by lia
   rcases this with rfl|rfl
   .exact⟨a,ha,rfl⟩
   .exact⟨_,Int.natCast_nonneg _,rfl⟩
  have tl:t.length<=sizeLine:=by have:=zW;lia
  have s1:=fun s=>G7 (s:=s) (h:=h) (l:=t) hb (by lia)
  have s2:=fun s=>G8 (s:=s) (h:=h) (l:=t) hb (by lia)
  have b1:(t.take b.toNat).length<=2000:=by rw[B2];lia
  have b2:(t.drop b.toNat).length<=2000:=by rw[Cf];lia
  have k1:=fun s=>AJ (s:=s) (h:=h) (a:=t.take b.toNat) (b:=x) (by lia)
  have k2:=fun s=>AJ (s:=s) (h:=h) (a:=t.take b.toNat++x) (b:=t.drop b.toNat) (by rw[Am];lia)
  exact⟨t.take b.toNat++x++t.drop b.toNat,by rw[Am,Am];lia,by (simp![g,zV,yb,zQ,zP,tl,eb,s1,s2,k1,k2,ex,G5,GA,CB,Rv,yZ,Rw,z6])<;>rfl⟩
 .refine .inr ?_
  (simp![g])<;>rfl
def R9 {t:List Nat} (ht:t.length<=2000) (c o:Int) (h:H3):QU h (Eh [.str (tx t),.int c,.int o] h):=by
 unfold Eh Hl
 refine BO rfl ?_
 refine zF (s1:=[some (.v (.str (tx t))),some (.v (.int c)),some (.v (.int o)),some (.m (.lst (sgs.map enc))),none,none,none,none,none]) (h1:=h) (by unfold sSet;rw[Rx];rfl) ?_
 obtain⟨sg,hsg,e3⟩:=E5 (ls:=sgs) (m:=23) rfl (by decide) o
 have hs:sg.length<=4:=(by decide:∀l∈sgs,l.length<=4) sg hsg
 have ox:∀(y0 y1 y2 y4 y5 y6 y7 y8:Option Vl),zJ [y0,y1,y2,some (.m (.lst (sgs.map enc))),y4,y5,y6,y7,y8] h (.s 3) (.x (.int (o%23)))=some (.v (.str (tx sg))):=fun y0 y1 y2 y4 y5 y6 y7 y8=>by
  rw[HP];show (atI (sgs.map enc) (o%23)).map Vl.v=_;rw[show atI (sgs.map enc) (o%23)=some (.str (tx sg)) from e3]
  rfl
 have l23:(sgs.map enc).length=23:=rfl;have c23:((23:Nat):Int)=23:=rfl
 refine zF (by (simp![l23,c23,ox])<;>rfl) ?_
 have tl:t.length<=sizeLine:=by have:=zW;lia
 have tp:0<(t.length:Int)+1:=by lia
 refine zF (by (simp![zP,tl,tp])<;>rfl) ?_
 have ha:0<=o / 23%((t.length:Int)+1):=Int.emod_nonneg _ (by lia)
 generalize o / 23%((t.length:Int)+1)=a at ha ⊢
 refine zF (by (simp![])<;>rfl) ?_
 have hw:0<=c%9/\c%9<9:=by lia
 generalize c%9=w at hw ⊢;have cs:w=0\/w=1\/w=2\/3<=w:=by lia
 rcases cs with rfl|rfl|rfl|h3
 .obtain⟨u,hu,e⟩:=Rz (t:=t) (sg:=sg) (c:=c) (o:=o) ht hs ha h
  exact GB e ⟨u,hu,rfl⟩
 .obtain⟨u,hu,e⟩:=R0 (t:=t) (sg:=sg) (c:=c) (o:=o) ht ha h
  refine zF (by (simp![])<;>rfl) (GB e ⟨u,hu,rfl⟩)
 .obtain⟨u,hu,e⟩:=R1 (t:=t) (sg:=sg) (c:=c) (o:=o) ht hs ha h
  refine zF (by (simp![])<;>rfl) (zF (by (simp![])<;>rfl) (GB e ⟨u,hu,rfl⟩))
 .have n0: ¬w=0:=by lia
  have n1: ¬w=1:=by lia
  have n2: ¬w=2:=by lia
  refine zF (by (simp![n0])<;>rfl) ?_
  refine zF (by (simp![n1])<;>rfl) ?_
  refine zF (by (simp![n2])<;>rfl) ?_
  obtain⟨c1,c2,c3⟩:=qS (" " :Str) t;have es:=CA (p:=pV 0) (a:=aCons (pE (eC (.str (" " :Str)))) aNil) (s:=sS t c o sg a w none none none) (h:=h) (x:=t) (y:=(" " :Str)) (by lia) (by decide+kernel) (by simp![]) (by simp![])
  have hW:=Rk t
  refine zF (by (simp![es])<;>rfl) ?_
  generalize zt (" " :Str) t=ws at*;have wl:ws.length<=sizeLine:=by have:=zW;lia
  have wp:0<(ws.length:Int):=by lia
  refine zF (by (simp![Ah,wl,wp])<;>rfl) ?_
  have h0:0<=o / 23%(ws.length:Int):=Int.emod_nonneg _ (by lia)
  have h1:o / 23%(ws.length:Int)<ws.length:=Int.emod_lt_of_pos _ wp;generalize o / 23%(ws.length:Int)=p at h0 h1 ⊢;have fin:∀(us:List (List Nat)) (y8:Option Vl),W us<=8500->QU h ((sRet (AD (pE (eC (.str (" " :Str)))) (aCons (pV 6) aNil)) (sS t c o sg a w (some (.m (.lst (us.map enc)))) (some (.v (.int p))) y8) h).res):=fun us y8 hu=>by
   have e:=Rl (p:=pE (eC (.str (" " :Str)))) (a:=aCons (pV 6) aNil) (s:=sS t c o sg a w (some (.m (.lst (us.map enc)))) (some (.v (.int p))) y8) (h:=h) (g:= .s 6) (ls:=us) (by (simp![CB])<;>rfl) (by (simp![])<;>rfl) rfl (by lia)
   exact⟨jn [32] us,by have:=Ri us;lia,by unfold sRet;rw[e];rfl⟩
  have cs:w=3\/w=4\/w=5\/w=6\/w=7\/w=8:=by lia
  rcases cs with rfl|rfl|rfl|rfl|rfl|rfl
  .obtain⟨us,hu,e⟩:=R3 (t:=t) (sg:=sg) (c:=c) (o:=o) (a:=a) (p:=p) (ws:=ws) (by lia) h
   refine zF e ?_
   refine zF (by (simp![])<;>rfl) ?_
   refine zF (by (simp![])<;>rfl) ?_
   refine zF (by (simp![])<;>rfl) ?_
   refine zF (by (simp![])<;>rfl) ?_
   refine zF (by (simp![])<;>rfl) ?_
   exact fin us none hu
  .obtain⟨us,hu,e⟩:=R4 (t:=t) (sg:=sg) (c:=c) (o:=o) (a:=a) (p:=p) (ws:=ws) (by lia) h
   refine zF (by (simp![])<;>rfl) ?_
   refine zF e ?_
   refine zF (by (simp![])<;>rfl) ?_
   refine zF (by (simp![])<;>rfl) ?_
   refine zF (by (simp![])<;>rfl) ?_
   refine zF (by (simp![])<;>rfl) ?_
   exact fin us none hu
  .obtain⟨us,hu,e⟩:=R5 (t:=t) (sg:=sg) (c:=c) (o:=o) (a:=a) (p:=p) (ws:=ws) (by lia) h
   refine zF (by (simp![])<;>rfl) ?_
   refine zF (by (simp![])<;>rfl) ?_
   refine zF e ?_
   refine zF (by (simp![])<;>rfl) ?_
   refine zF (by (simp![])<;>rfl) ?_
   refine zF (by (simp![])<;>rfl) ?_
   exact fin us none hu
  .obtain⟨us,hu,e⟩:=R6 (t:=t) (sg:=sg) (c:=c) (o:=o) (a:=a) (p:=p) (ws:=ws) (by lia) h0 h1 h
   refine zF (by (simp![])<;>rfl) ?_
   refine zF (by (simp![])<;>rfl) ?_
   refine zF (by (simp![])<;>rfl) ?_
   refine zF e ?_
   refine zF (by (simp![])<;>rfl) ?_
   refine zF (by (simp![])<;>rfl) ?_
   exact fin us none hu
  .obtain⟨us,y8,hu,e⟩:=R7 (t:=t) (sg:=sg) (c:=c) (o:=o) (a:=a) (p:=p) (ws:=ws) (by lia) (fun w hw=>by have:=c3 w hw;lia) h0 h1 h
   refine zF (by (simp![])<;>rfl) ?_
   refine zF (by (simp![])<;>rfl) ?_
   refine zF (by (simp![])<;>rfl) ?_
   refine zF (by (simp![])<;>rfl) ?_
   refine zF e ?_
   refine zF (by (simp![])<;>rfl) ?_
   exact fin us y8 hu
  .skip
   refine zF (by (simp![])<;>rfl) ?_
   refine zF (by (simp![])<;>rfl) ?_
   refine zF (by (simp![])<;>rfl) ?_
   refine zF (by (simp![])<;>rfl) ?_
   refine zF (by (simp![])<;>rfl) ?_
   rcases R8 (t:=t) (sg:=sg) (c:=c) (o:=o) (a:=a) (y6:=some (.m (.lst (ws.map enc)))) (y7:=some (.v (.int p))) ht ha h with ⟨u,hu,e⟩|e
   .exact GB e ⟨u,hu,rfl⟩
   .refine zF e ?_
    exact fin ws none (by lia)
def RA {t u:List Nat} (ht:t.length<=10000) (hu:u.length<=10000) {x0 x1 x2 x3 y6 y7:Option Vl} (h:H3):
  ∃z6 h',Ft [x0,x1,x2,x3,some (.v (.str (tx t))),some (.v (.str (tx u))),y6,y7] h=.nx [x0,x1,x2,x3,some (.v (.str (tx t))),some (.v (.str (tx u))),z6,y7] h':=by
 unfold Ft;obtain⟨s',h',e,z6,rfl⟩:=Gv (it:=qC (aCons (kJ 3) aNil)) (g:=gN 6) (b:=(sSeq (sFz 4) (sSeq (sFz 5) (sIf (tOr3 (tNot3 (tE (eCall jx (aCons (pV 5) (aCons (pV 6) aNil))))) (tNot3 (tE (eCall jx (aCons (pV 4) (aCons (pV 6) aNil)))))) (sRet (eC (.bl false))) sSkip)))) (Ko (s:=[x0,x1,x2,x3,some (.v (.str (tx t))),some (.v (.str (tx u))),y6,y7]) (h:=h) (j:=3) (by (simp![])<;>rfl) (by decide)) (fun _ s _=> ∃z6,s=[x0,x1,x2,x3,some (.v (.str (tx t))),some (.v (.str (tx u))),z6,y7]) (fun _ _ _ _=>trivial) ⟨y6,rfl⟩ (by
  rintro i k s h' hk ⟨z6,rfl⟩;have hi:i<(3:Int).toNat:=by have:=(As.mp hk).1;simpa using this
  have ek:k=i:=by rw[Cu hi]at hk;cases hk;rfl
  subst ek;have hk:k=0\/k=1\/k=2:=by have:(3:Int).toNat=3:=rfl;lia
  obtain⟨h1,r1⟩:=KL hk hu h';obtain⟨h2,r2⟩:=KL hk ht h1;generalize ((k:Nat):Int)=K at*;exact⟨_,h2,by (simp![r1,r2])<;>rfl,_,rfl⟩)
 exact⟨z6,h',e⟩
def RB {t u:List Nat} (hu:u.length<=10000) {x0 x1 x2 x3 y6 y7:Option Vl} (h:H3):
  ∃z7,Fu [x0,x1,x2,x3,some (.v (.str (tx t))),some (.v (.str (tx u))),y6,y7] h=.nx [x0,x1,x2,x3,some (.v (.str (tx t))),some (.v (.str (tx u))),y6,z7] h:=by
 obtain⟨c1,c2,c3⟩:=qS (" " :Str) u;have es:=CA (p:=pV 5) (a:=aCons (pE (eC (.str (" " :Str)))) aNil) (s:=[x0,x1,x2,x3,some (.v (.str (tx t))),some (.v (.str (tx u))),y6,y7]) (h:=h) (x:=u) (y:=(" " :Str)) (by lia) (by decide+kernel) (by simp![]) (by simp![])
 unfold Fu;generalize zt (" " :Str) u=ws at*;obtain⟨s',h',e,rfl,z7,rfl⟩:=Gv (l:=ws) (enc:=enc) (its:=[.lst (ws.map enc)]) (ok:=fun _=>True) (it:=iL (pE (qU (pV 5) (aCons (pE (eC (.str (" " :Str)))) aNil)))) (g:=gN 7) (b:=(sIf (tNot3 (tE (eCall BC (aCons (pV 7) aNil)))) (sRet (eC (.bl false))) sSkip)) (s:=[x0,x1,x2,x3,some (.v (.str (tx t))),some (.v (.str (tx u))),y6,y7]) (h:=h) (by (simp![iL,qr,es])<;>rfl) (fun _ s h'=>h'=h/\∃z7,s=[x0,x1,x2,x3,some (.v (.str (tx t))),some (.v (.str (tx u))),y6,z7]) (fun _ _ _ _=>trivial) ⟨rfl,y7,rfl⟩ (by
  rintro i w s h' hi ⟨rfl,z7,rfl⟩;have r:=HU (l:=w) (by have:=c3 w (Al hi);lia) h'
  exact⟨_,_,by (simp![r])<;>rfl,rfl,_,rfl⟩)
 exact⟨z7,e⟩
def lwB:D3:=(sSeq (sSet 3 (eOp zj (pE (eCall yJ (aCons (pV 0) (aCons (pV 2) aNil)))) (kJ 3))) (sSeq (sFz 1) (sSeq (sSet 4 (eCall AY (aCons (pE (eCall CW (aCons (pE (eOp zB (pE (eCall yJ (aCons (pV 0) (aCons (pV 2) aNil)))) (kJ 3))) (aCons (pV 3) (aCons (pV 1) aNil))))) (aCons (pV 3) aNil)))) (sSeq (sFz 4) (sSeq (sSet 5 (eCall Eh (aCons (pV 4) (aCons (pE (eCall yJ (aCons (pV 0) (aCons (pE (eOp zf (pV 2) (kJ 1))) aNil)))) (aCons (pE (eCall yJ (aCons (pV 0) (aCons (pE (eOp zf (pV 2) (kJ 2))) aNil)))) aNil))))) (sSeq Ft Fu))))))
def lw_w:Hy=zw (iR3 (aCons (kJ 3) (aCons (pE (eB bMax (aCons (kJ 6) (aCons (pE (eB bMin (aCons (pE (eB bLen (aCons (pV 0) aNil))) (aCons (kJ 63) aNil)))) aNil)))) (aCons (kJ 3) aNil)))) (gN 2) lwB:=rfl
def RC {ns:List Int} {names:List (List Nat)} (hs:∀l∈names,l.length<=8) (hp:0<names.length) (hl:names.length<=10) {K a b c:Int} (e0:∀h,yJ [.scr ns,.int K] h=.ok (.v (.int a)) h) (e1:∀h,yJ [.scr ns,.int (K+1)] h=.ok (.v (.int b)) h) (e2:∀h,yJ [.scr ns,.int (K+2)] h=.ok (.v (.int c)) h)
  {n1:Vl} (hn:n1=.m (.lst (names.map enc))\/n1=.v (.lst (names.map enc))) {y2 y3 y4 y5 y6 y7:Option Vl} (h:H3):
  ∃z2 z3 z4 z5 z6 z7 h',gb (gN 2) lwB (.int K) [some (.v (.scr ns)),some n1,y2,y3,y4,y5,y6,y7] h=.nx [some (.v (.scr ns)),some (.v (.lst (names.map enc))),z2,z3,z4,z5,z6,z7] h':=by
 have h3:(0:Int)<3:=by decide
 have ha:a%3=0\/a%3=1\/a%3=2:=by lia
 generalize hA:a%3=A at ha;obtain⟨rs,hr,er⟩:=Rh (c:=a / 3) (k:=A) ha hs hp hl h;obtain⟨T,hT,et⟩:=Ra hr ha h;obtain⟨U,hU,eu⟩:=R9 hT b c h;have er:CW [.int (a / 3),.int A,.lst (names.map enc)] h=.ok (.m (.lst (rs.map yd))) h:=er;obtain⟨z6,h',q1⟩:=RA (t:=T) (u:=U) (by lia) (by lia) (x0:=some (.v (.scr ns))) (x1:=some (.v (.lst (names.map enc)))) (x2:=some (.v (.int K))) (x3:=some (.v (.int A))) (y6:=y6) (y7:=y7) h
 obtain⟨z7,q2⟩:=RB (t:=T) (u:=U) (by lia) (x0:=some (.v (.scr ns))) (x1:=some (.v (.lst (names.map enc)))) (x2:=some (.v (.int K))) (x3:=some (.v (.int A))) (y6:=z6) (y7:=y7) h'
 refine⟨some (.v (.int K)),some (.v (.int A)),some (.v (.str (tx T))),some (.v (.str (tx U))),z6,z7,h',?_⟩
 show lwB [some (.v (.scr ns)),some n1,some (.v (.int K)),y3,y4,y5,y6,y7] h=_;unfold lwB
 refine (AS (s1:=[some (.v (.scr ns)),some n1,some (.v (.int K)),some (.v (.int A)),y4,y5,y6,y7]) (h1:=h) (by (simp![e0,hA])<;>rfl)).trans ?_
 refine (AS (s1:=[some (.v (.scr ns)),some (.v (.lst (names.map enc))),some (.v (.int K)),some (.v (.int A)),y4,y5,y6,y7]) (h1:=h) (by rcases hn with rfl|rfl<;>rfl)).trans ?_
 refine (AS (s1:=[some (.v (.scr ns)),some (.v (.lst (names.map enc))),some (.v (.int K)),some (.v (.int A)),some (.v (.str (tx T))),y5,y6,y7]) (h1:=h) (by (simp![e0,er,et])<;>rfl)).trans ?_
 refine (AS (s1:=[some (.v (.scr ns)),some (.v (.lst (names.map enc))),some (.v (.int K)),some (.v (.int A)),some (.v (.str (tx T))),y5,y6,y7]) (h1:=h) rfl).trans ?_
 refine (AS (s1:=[some (.v (.scr ns)),some (.v (.lst (names.map enc))),some (.v (.int K)),some (.v (.int A)),some (.v (.str (tx T))),some (.v (.str (tx U))),y6,y7]) (h1:=h) (by (simp![e1,e2,eu])<;>rfl)).trans ?_
 exact (AS q1).trans q2
def Yes (R:Res Vl):Prop:=∃h',R=.ok (.v (.bl true)) h'
def law_yes (ns:List Int) (hns:ns.length<=63):Yes (f_law [.scr ns] []):=by
 unfold f_law Hz;rw[lw_w]
 refine BO rfl ?_
 have c0:=FA ns hns (k:=0) (by decide)
 have c1:=FA ns hns (k:=1) (by decide)
 have c0:∀h,yJ [.scr ns,.int 0] h=.ok (.v (.int (cl ns 0))) h:=c0;have c1:∀h,yJ [.scr ns,.int 1] h=.ok (.v (.int (cl ns 1))) h:=c1;obtain⟨ls,en,hln,hn⟩:=QW (cl ns 0) (1+cl ns 1%4) (by lia) []
 have h8:∀l∈ls,l.length<=8:=fun l hl=>by
  have:=hn l hl;unfold yX at this;simp only[Be,B9]at this;exact this.1.2
 refine zF (by (simp![c0,c1,en])<;>rfl) ?_
 obtain⟨L,hL⟩:∃L:Int,(ns.length:Int)=L:=⟨_,rfl⟩;have sl:ns.length<=sizeLine:=by have:=zW;lia
 generalize hN:max 6 (min L 63)=N;have hNb:6<=N/\N<=63:=by lia
 have rk:RgOk 3 N 3:=by unfold RgOk;lia
 have rn:jk 3 N 3<=20:=by unfold jk;lia
 refine PX (l:=List.range (jk 3 N 3)) (enc:=fun k:Nat=>V3.int (3+(k:Nat)*3)) (its:=[]) (ok:=fun _=>True) (by (simp![iR3,sl,Ah,hL,hN,Aa rk])<;>rfl) (fun _ s _=> ∃n1 y2 y3 y4 y5 y6 y7,s=[some (.v (.scr ns)),some n1,y2,y3,y4,y5,y6,y7]/\(n1=.m (.lst (ls.map enc))\/n1=.v (.lst (ls.map enc)))) (fun _ _ _ _=>trivial) ⟨_,none,none,none,none,none,none,rfl,.inl rfl⟩ ?_ ?_
 .rintro i k s h hk ⟨n1,y2,y3,y4,y5,y6,y7,rfl,hn1⟩
  have hi:i<jk 3 N 3:=by have:=(As.mp hk).1;simpa using this
  have ek:k=i:=by rw[Cu hi]at hk;cases hk;rfl
  subst ek;have e0:=FA ns hns (k:=3+k*3) (by lia)
  have e1:=FA ns hns (k:=3+k*3+1) (by lia)
  have e2:=FA ns hns (k:=3+k*3+2) (by lia)
  rw[show ((3+k*3:Nat):Int)=3+(k:Int)*3 by lia]at e0
  rw[show ((3+k*3+1:Nat):Int)=3+(k:Int)*3+1 by lia]at e1
  rw[show ((3+k*3+2:Nat):Int)=3+(k:Int)*3+2 by lia]at e2
  obtain⟨z2,z3,z4,z5,z6,z7,h',e⟩:=RC h8 (by lia) (by lia) e0 e1 e2 hn1 (y2:=y2) (y3:=y3) (y4:=y4) (y5:=y5) (y6:=y6) (y7:=y7) h
  exact⟨_,h',e,_,z2,z3,z4,z5,z6,z7,rfl,.inr rfl⟩
 .rintro s h ⟨n1,y2,y3,y4,y5,y6,y7,rfl,hn1⟩
  have r1:=HU (l:=[]) (by decide) h
  have r2:=HU (l:=[48,48]) (by decide) h
  exact⟨h,by (simp![tx_e,G9,r1,r2])<;>rfl⟩
end My
namespace My
open PySem PySem.Spec PyProof.Rows L2 L3
def law_true:∀ns:List Int,ns.length<=63->∃h',f_law [.scr ns] []=.ok (.v (.bl true)) h':=law_yes
def txt {K:FG} {mg:Str->Option Value} {h:Heap} (X:K.In h) (G:h.Ns mainGlobals mg) (S:L4.seenK ask K=L4.good PySem.Challenge.pw_dueyard_k82_texts_refused ask):∃_:Txt K mg,True:=by
 obtain⟨f0,d0,a0,F0⟩:=L4.def_at S 0 rfl;obtain⟨f1,d1,a1,F1⟩:=L4.def_at S 1 rfl;obtain⟨f2,d2,a2,F2⟩:=L4.def_at S 2 rfl;obtain⟨f3,d3,a3,F3⟩:=L4.def_at S 3 rfl;obtain⟨f4,d4,a4,F4⟩:=L4.def_at S 4 rfl;obtain⟨f5,d5,a5,F5⟩:=L4.def_at S 5 rfl;obtain⟨f6,d6,a6,F6⟩:=L4.def_at S 6 rfl;obtain⟨f7,d7,a7,F7⟩:=L4.def_at S 7 rfl;obtain⟨f8,d8,a8,F8⟩:=L4.def_at S 8 rfl;obtain⟨f9,d9,a9,F9⟩:=L4.def_at S 9 rfl;obtain⟨f10,d10,a10,F10⟩:=L4.def_at S 10 rfl;obtain⟨f11,d11,a11,F11⟩:=L4.def_at S 11 rfl;obtain⟨f12,d12,a12,F12⟩:=L4.def_at S 12 rfl;obtain⟨f13,d13,a13,F13⟩:=L4.def_at S 13 rfl;obtain⟨f14,d14,a14,F14⟩:=L4.def_at S 14 rfl;obtain⟨f15,d15,a15,F15⟩:=L4.def_at S 15 rfl;obtain⟨f16,d16,a16,F16⟩:=L4.def_at S 16 rfl;obtain⟨f17,d17,a17,F17⟩:=L4.def_at S 17 rfl;obtain⟨f18,d18,a18,F18⟩:=L4.def_at S 18 rfl;obtain⟨f19,d19,a19,F19⟩:=L4.def_at S 19 rfl;obtain⟨f20,d20,a20,F20⟩:=L4.def_at S 20 rfl;obtain⟨f21,d21,a21,F21⟩:=L4.def_at S 21 rfl;obtain⟨f22,d22,a22,F22⟩:=L4.def_at S 22 rfl;obtain⟨f23,d23,a23,F23⟩:=L4.def_at S 23 rfl;obtain⟨f24,d24,a24,F24⟩:=L4.def_at S 24 rfl;obtain⟨f25,d25,a25,F25⟩:=L4.def_at S 25 rfl;obtain⟨t0,v0⟩:=L4.str_at S 0 rfl;obtain⟨t1,v1⟩:=L4.str_at S 1 rfl;obtain⟨t2,v2⟩:=L4.int_at S 2 rfl;obtain⟨t3,v3⟩:=L4.str_at S 3 rfl;obtain⟨t4,v4⟩:=L4.int_at S 4 rfl;obtain⟨t5,v5⟩:=L4.str_at S 5 rfl;obtain⟨E0,h0,x0⟩:=L4.exc_at S 0 rfl;obtain⟨E1,h1,x1⟩:=L4.exc_at S 1 rfl;obtain⟨E2,h2,x2⟩:=L4.exc_at S 2 rfl;obtain⟨E3,h3,x3⟩:=L4.exc_at S 3 rfl;obtain⟨E4,h4,x4⟩:=L4.exc_at S 4 rfl;exact⟨⟨f0,d0,⟨F0,L4.b2 F0 fun _ _ _ _ _ _ _ _=>rfl,Ai X G a0⟩,f1,d1,⟨F1,L4.b2 F1 fun _ _ _ _ _ _ _ _=>rfl,Ai X G a1⟩,f2,d2,⟨F2,L4.b2 F2 fun _ _ _ _ _ _ _ _=>rfl,Ai X G a2⟩,f3,d3,⟨F3,L4.b3 F3 fun _ _ _ _ _ _ _ _ _=>rfl,Ai X G a3⟩,f4,d4,⟨F4,L4.b1 F4 fun _ _ _ _ _ _ _=>rfl,Ai X G a4⟩,f5,d5,⟨F5,L4.b1 F5 fun _ _ _ _ _ _ _=>rfl,Ai X G a5⟩,f6,d6,⟨F6,L4.b1 F6 fun _ _ _ _ _ _ _=>rfl,Ai X G a6⟩,f7,d7,⟨F7,L4.b1 F7 fun _ _ _ _ _ _ _=>rfl,Ai X G a7⟩,f8,d8,⟨F8,L4.b3 F8 fun _ _ _ _ _ _ _ _ _=>rfl,Ai X G a8⟩,f9,d9,⟨F9,L4.b1 F9 fun _ _ _ _ _ _ _=>rfl,Ai X G a9⟩,f10,d10,⟨F10,L4.b1 F10 fun _ _ _ _ _ _ _=>rfl,Ai X G a10⟩,f11,d11,⟨F11,L4.b1 F11 fun _ _ _ _ _ _ _=>rfl,Ai X G a11⟩,f12,d12,⟨F12,L4.b1 F12 fun _ _ _ _ _ _ _=>rfl,Ai X G a12⟩,f13,d13,⟨F13,L4.b2 F13 fun _ _ _ _ _ _ _ _=>rfl,Ai X G a13⟩,f14,d14,⟨F14,L4.b1 F14 fun _ _ _ _ _ _ _=>rfl,Ai X G a14⟩,f15,d15,⟨F15,L4.b1 F15 fun _ _ _ _ _ _ _=>rfl,Ai X G a15⟩,f16,d16,⟨F16,L4.b1 F16 fun _ _ _ _ _ _ _=>rfl,Ai X G a16⟩,f17,d17,⟨F17,L4.b1 F17 fun _ _ _ _ _ _ _=>rfl,Ai X G a17⟩,f18,d18,⟨F18,L4.b2 F18 fun _ _ _ _ _ _ _ _=>rfl,Ai X G a18⟩,f19,d19,⟨F19,L4.b2 F19 fun _ _ _ _ _ _ _ _=>rfl,Ai X G a19⟩,f20,d20,⟨F20,L4.b1 F20 fun _ _ _ _ _ _ _=>rfl,Ai X G a20⟩,f21,d21,⟨F21,L4.b2 F21 fun _ _ _ _ _ _ _ _=>rfl,Ai X G a21⟩,f22,d22,⟨F22,L4.b1 F22 fun _ _ _ _ _ _ _=>rfl,Ai X G a22⟩,f23,d23,⟨F23,L4.b2 F23 fun _ _ _ _ _ _ _ _=>rfl,Ai X G a23⟩,f24,d24,⟨F24,L4.b2 F24 fun _ _ _ _ _ _ _ _=>rfl,Ai X G a24⟩,f25,d25,⟨F25,L4.b1 F25 fun _ _ _ _ _ _ _=>rfl,Ai X G a25⟩,E0,Ai X G h0,E1,Ai X G h1,E2,Ai X G h2,E3,Ai X G h3,E4,Ai X G h4,⟨(x4 rfl).1,Ai X G h4⟩,(x4 rfl).2,(L4.tab_at S 0 rfl h4 h0).1,(L4.tab_at S 0 rfl h4 h0).2,(L4.tab_at S 1 rfl h4 h4).1,(L4.tab_at S 1 rfl h4 h4).2,(L4.tab_at S 2 rfl h4 h3).1,(L4.tab_at S 2 rfl h4 h3).2,(L4.tab_at S 3 rfl h4 h1).1,(L4.tab_at S 3 rfl h4 h1).2,(L4.tab_at S 4 rfl h4 h2).1,(L4.tab_at S 4 rfl h4 h2).2,Bh X G (L4.bare_at S 0 rfl),Bh X G (L4.bare_at S 1 rfl),Bh X G (L4.bare_at S 2 rfl),Bh X G (L4.bare_at S 3 rfl),Bh X G (L4.bare_at S 4 rfl),Bh X G (L4.bare_at S 5 rfl),Bh X G (L4.bare_at S 6 rfl),Bh X G (L4.bare_at S 7 rfl),Bh X G (L4.bare_at S 8 rfl),Bh X G (L4.bare_at S 9 rfl),Bh X G (L4.bare_at S 10 rfl),Bh X G (L4.bare_at S 11 rfl),Bh X G (L4.bare_at S 12 rfl),t0,Ai X G v0,t1,Ai X G v1,t2,Ai X G v2,t3,Ai X G v3,t4,Ai X G v4,t5,Ai X G v5⟩,trivial⟩
def d_law:PySem.DefRec:=⟨"law",EG (yx 40),CJ (yx 40),zR (yx 40),⟨216,0,228,60⟩⟩
end My
open PySem PySem.W PyProof.Rows
set_option maxRecDepth 100000 in
set_option maxHeartbeats 0 in
theorem PySem.Challenge.cw_dueyard_k82_texts_refused_holds : PySem.Challenge.rw_dueyard_k82_texts_refused.Holds := by
 w_on;o_law
 refine PySem.W.holds_open (q:=L4.lawView My.ask PySem.Challenge.pw_dueyard_k82_texts_refused) (loose:=L4.looseOf PySem.Challenge.pw_dueyard_k82_texts_refused) (Xt:=fun _=>true) (XP:=fun _ _=>True) (YP:=fun _ h=> ∃K:Frag,K.In h/\L4.seenK My.ask K=L4.good PySem.Challenge.pw_dueyard_k82_texts_refused My.ask) (d:=My.d_law) (kwd:=[]) (N:=20000) (L4.left_one (good:=L4.good PySem.Challenge.pw_dueyard_k82_texts_refused My.ask) (by kernel_rfl) (by decide) (fun _=>rfl) My.one) (fun w s e=>L4.seen_ok w s e) (fun w h h'=>L4.seen_keeps w h h') (fun _ _=>trivial) (fun _ _ _ _ _=>trivial) (by kernel_rfl) (by kernel_rfl) rfl (fun _ _=>recFacts_nil rfl) rfl (by assumption) (by decide+kernel) ⟨rfl,rfl,rfl,rfl,rfl,by decide+kernel⟩ ?hw ?hc
 case hw=>w_witness2
 case hc=>
  refine L4.walk_one (l:=PySem.Challenge.rw_dueyard_k82_texts_refused) (n:=63) (k:=9) (x:="_law_script") (CX:=fun w=>L2.XT PySem.Challenge.rw_dueyard_k82_texts_refused.prog w) (sp:=L3.spL) rfl (by decide) rfl ⟨rfl,by decide,by decide⟩ ?F (fun _ _ a ns hl hO hS=>⟨a,ns,rfl,hl,hS,hO,fun _=>rfl⟩) fun _ _ _ _ _ z=>L3.noX z
  intro w mg fa h K KX G S hmg;obtain⟨T,_⟩:=My.txt KX G S;have e:=hmg.symm.trans T.d_law.g;cases e;exact⟨T.fd_law,L4.binds_law T.d_law.F fun _ _ _ _ _ _ _=>rfl,fun base _ _=>(My.G_law (P:=PySem.Challenge.rw_dueyard_k82_texts_refused.prog) (w:=w) (base:=base) T).imp (sp':=L3.spL K) fun vs H Q E h=>L3.spL_of (κ:=My.kx T) My.law_true h⟩
