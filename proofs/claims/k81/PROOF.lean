import PyProof.Rows.All
import Wide.All
import OpenK.AllK
import Wide.FinOn
import Lean
import PyProof.EqAt
import PyProof.EqKinds
import PyProof.TupleCall
import KE.KSortTup
import KE.KUnpack
import PyProof.DictRoadsH
import PyProof.EnumFor
import PyProof.EnumStmt
import PyProof.EnumMake
import PyProof.MaxThree
import KE.KDictList
import PyProof.ExcBaseAll.ValueError
import PyProof.Rows.Catch
import PyProof.NsDelKeeps
import PyProof.NeKinds
import KE.KxText
import PyProof.WalkInts
import PyProof.SeqI3
import KE.KRevIter
import PyProof.DictIter
import PyProof.DictWalks
import KE.KIntText
import PyProof.Calls
import PySem.Challenge.RW_dueyard_k81_texts_told_and_read
abbrev VP:=PySem.Value->PySem.Shared->Prop
abbrev AL:=List (PySem.Addr×PySem.Obj)
abbrev AO:=List (Option PySem.Addr)
abbrev FG:=PySem.W.Frag
set_option linter.all false
def Aa:=@if_pos
def Ab:=@if_neg
def Ac:=@Nat.le_refl
def Ad:=@List.length_map
def Ae:=@PySem.Heap.lt_size
def Af:=@List.size_toArray
def Ag:=@PySem.wpAny_bind
def Ah:=@PySem.W.mg_of
def Ai:=@List.mem_cons
def Aj:=@List.mem_of_getElem?
def Ak:=@List.mem_cons_self
def Al:=@List.mem_map
def Am:=@PySem.wpAny_pure
def An:=@Bool.false_ne_true
def Ao:=@List.map_cons
def Ap:=@List.mem_cons_of_mem
def Aq:=@List.mem_append
def Ar:=@List.length_append
def As:=@decide_eq_false
def Au:=@Nat.lt_of_lt_of_le
def Av:=@List.getElem?_eq_some_iff
def Aw:=@PySem.Heap.get?_push_of_some
def Ax:=@List.map_map
def Ay:=@Nat.ne_of_lt
def Az:=@List.getElem?_append_left
def A0:=@Option.map_some
def A1:=@Nat.le_trans
def A2:=@List.mem_singleton
def A4:=@List.length_cons
def A5:=@PySem.wpAny_mono
def A6:=@PySem.Heap.get?_push_size
def A7:=@List.mem_append_right
def A8:=@List.getElem?_map
def A9:=@List.map_append
def Ba:=@List.length_set
def Bb:=@PySem.W.mg_none_of
def Bc:=@PySem.W.kia_one
def Be:=@List.nodup_cons
def Bf:=@PySem.wpAny_truthy_bool
def Bg:=@List.getElem?_append_right
def Bh:=@if_true
def Bi:=@List.lookup_cons
def Bj:=@List.getElem?_set
def Bk:=@or_false
def Bl:=@PySem.boot_len
def Bm:=@Nat.lt_irrefl
def Bn:=@PySem.mem_of_lookup
def Bo:=@Bool.and_eq_true
def Bp:=@List.map_nil
def Bq:=@decide_eq_true
def Br:=@List.mem_range
def Bs:=@if_false
def Bt:=@PySem.call_meets
def Bu:=@PySem.F.slot_list_append
def Bv:=@PySem.F.type_list_append
def Bw:=@List.length_replicate
def Bx:=@List.replicate_succ
def By:=@Nat.zero_le
def Bz:=@List.nil_append
def B0:=@decide_eq_true_eq
def B1:=@List.drop_length
def B2:=@List.not_mem_nil
def B3:=@List.length_take
def B4:=@List.flatten_cons
def B5:=@List.append_assoc
def B6:=@PyProof.Rows.boot_isinstance
def B7:=@Int.eq_ofNat_of_zero_le
def B8:=@List.mem_filterMap
def B9:=@PySem.wpAny_passesOwn
def Ca:=@List.append_nil
def Cb:=@PySem.wpAny_newObj_type
def Cc:=@Bool.or_false
def Cd:=@Option.some.injEq
def Ce:=@Bool.false_eq_true
def Cf:=@List.all_eq_true
def Cg:=@List.drop_eq_getElem_cons
def Ci:=@Nat.lt_or_ge
def Cj:=@PySem.strLen_append
def Ck:=@Bool.not_true
def Cm:=@Int.toNat_natCast
def Cn:=@List.filterMap_cons
def Co:=@Bool.false_and
def Cp:=@PySem.wpAny_pyIter_list
def Cq:=@List.length_singleton
def Cr:=@Option.map_eq_some_iff
def Cs:=@List.eq_nil_of_length_eq_zero
def Ct:=@beq_self_eq_true
def Cu:=@List.getElem?_cons_zero
def Cv:=@Option.bind_some
def Cw:=@List.getElem?_cons_succ
def Cy:=@List.length_range
def Cz:=@PyProof.Rows.boot_str
def C0:=@PyProof.Rows.boot_list
def C1:=@Bool.and_false
def C2:=@List.getD_eq_getElem?_getD
def C4:=@PySem.W.hideAll_none
def C5:=@PyProof.Rows.callWith_type1
def C6:=@List.getElem?_replicate
def C7:=@PyProof.Rows.slot_tuple_getitem
def C8:=@List.getElem?_of_mem
def C9:=@PySem.F.plainAttrs_str
def Da:=@PyProof.Rows.boot_int
def Dc:=@List.drop_append_of_le_length
universe u
noncomputable section
def z8 {α:Type u} {l:List α} {i:Nat} (h:i<l.length):l[i]?=some l[i]:=List.getElem?_eq_getElem h
def zb {a b:Prop} (h:a) (k:b):a/\b:=⟨h,k⟩
set_option Elab.async false
set_option compiler.extract_closed false
set_option bootstrap.genMatcherCode false
set_option genSizeOfSpec false
set_option genSizeOf false
local macro_rules | `(tactic|lia)=>`(tactic|first|assumption|lia (splits:=9)|omega)
set_option linter.all false
set_option maxRecDepth 100000
namespace L2
open PySem PySem.Spec PyProof.Rows
abbrev yA:=Sum Int Str
def GU:yA->Value->Bool
 |.inl k,v=>Value.isInt k v
 |.inr x,v=>Value.isStrOf x v
def keyH (w:World):yA->Int
 |.inl k=>hashInt k
 |.inr x=>hashStr w x
def AH:∀{k:yA} {v:Value},GU k v=true->(∃i t,k=Sum.inl i/\v=Value.int i t)\/(∃x t,k=Sum.inr x/\v=Value.str x t)
 |.inl i,v,h=>by
  obtain⟨t,e⟩:=Value.isInt_shape (k:=i) (v:=v) h;exact .inl ⟨i,t,rfl,e⟩
 |.inr x,v,h=>by
  obtain⟨t,e⟩:=Value.isStrOf_shape (x:=x) (v:=v) h;exact .inr ⟨x,t,rfl,e⟩
def JK (a b:Int):decide ((Sum.inl a:yA)=Sum.inl b)=(a==b):=by
 by_cases e:a=b
 .subst e;simp
 .have h: ¬(Sum.inl a:yA)=Sum.inl b:=fun q=>e (Sum.inl.inj q)
  rw[As h];exact (beq_eq_false_iff_ne.mpr e).symm
def JL (a b:Str):decide ((Sum.inr a:yA)=Sum.inr b)=decide (a=b):=by
 by_cases e:a=b
 .subst e;simp
 .have h: ¬(Sum.inr a:yA)=Sum.inr b:=fun q=>e (Sum.inr.inj q)
  rw[As h,As e]
def JM (a:Int) (b:Str):decide ((Sum.inl a:yA)=Sum.inr b)=false:=As (fun q=>nomatch q)
def JN (a:Str) (b:Int):decide ((Sum.inr a:yA)=Sum.inl b)=false:=As (fun q=>nomatch q)
def DS (prog:Program) (w:World):PySem.KeyKind prog w yA where
 is:=GU
 hash:=keyH w
 inj:=fun v a b ha hb=>by
  rcases AH ha with ⟨i,t,rfl,rfl⟩|⟨x,t,rfl,rfl⟩
  .rcases AH hb with ⟨j,u,rfl,e⟩|⟨y,u,rfl,e⟩
   .injection e with e1 _;rw[e1]
   .exact nomatch e
  .rcases AH hb with ⟨j,u,rfl,e⟩|⟨y,u,rfl,e⟩
   .exact nomatch e
   .injection e with e1 _;rw[e1]
 byValue:=fun k v h=>by
  rcases AH h with ⟨i,t,rfl,rfl⟩|⟨x,t,rfl,rfl⟩<;>rfl
 pyHash:=fun hv h=>by
  rcases AH hv with ⟨i,t,rfl,rfl⟩|⟨x,t,rfl,rfl⟩
  .exact wpAny_pyHash_int h
  .exact wpAny_pyHash_str h
 eqBool:=fun hu hv h=>by
  rcases AH hu with ⟨i,t,rfl,rfl⟩|⟨x,t,rfl,rfl⟩
  .rcases AH hv with ⟨j,u,rfl,rfl⟩|⟨y,u,rfl,rfl⟩
   .rw[JK]at h;exact wpAny_eqBool_int h
   .rw[JM]at h;exact SeqAt.EqAt.int_str i t y u _ _ _ _ h
  .rcases AH hv with ⟨j,u,rfl,rfl⟩|⟨y,u,rfl,rfl⟩
   .rw[JN]at h;exact SeqAt.EqAt.str_int x t j u _ _ _ _ h
   .rw[JL]at h;exact wpAny_eqBool_str h
 «strs» :=fun k x t v h=>by
  rcases AH h with ⟨i,u,rfl,e⟩|⟨y,u,rfl,e⟩
  .exact nomatch e
  .injection e with e1 _
   subst e1;cases v<;>rfl
inductive V where
 |non|bl (b:Bool)|int (i:Int)|str (x:Str)|byt (b:Array UInt8)|flt (b:UInt64)|ref (a:Addr)|ty (n:String)
 deriving DecidableEq
def RelV:V->Value->Prop
 |.non,u=>u=Value.none
 |.bl b,u=>u=Value.bool b
 |.int i,u=> ∃t,u=Value.int i t
 |.str x,u=> ∃t,u=Value.str x t
 |.byt b,u=> ∃t,u=Value.bytes b t
 |.flt b,u=> ∃t,u=Value.float b t
 |.ref a,u=>u=Value.ref a
 |.ty n,u=>u=Value.type n
abbrev Vals:List V->List Value->Prop:=Paired RelV
theorem Vals.length {xs:List V} {us:List Value} (r:Vals xs us):xs.length=us.length:=Paired.length r
theorem Vals.get:∀{xs:List V} {us:List Value} {i:Nat} {x:V},Vals xs us->xs[i]? =some x->∃u,us[i]? =some u/\RelV x u
 |_,_,_,_,.nil,e=>by simp at e
 |_,_,0,_,.cons r _,e=>by simp at e;subst e;exact⟨_,rfl,r⟩
 |_,_,i+1,x,.cons _ t,e=>by
  obtain⟨u,h1,h2⟩:=Vals.get (i:=i) (x:=x) t (by simpa using e)
  exact⟨u,by simpa using h1,h2⟩
theorem Vals.append:∀{xs ys:List V} {us ws:List Value},Vals xs us->Vals ys ws->Vals (xs++ys) (us++ws)
 |_,_,_,_,.nil,s=>s
 |_,_,_,_,.cons r t,s=>.cons r (Vals.append t s)
theorem Vals.take:∀{xs:List V} {us:List Value} (n:Nat),Vals xs us->Vals (xs.take n) (us.take n)
 |_,_,0,_=>.nil
 |_,_,_+1,.nil=>.nil
 |_,_,n+1,.cons r t=>.cons r (Vals.take n t)
theorem Vals.drop:∀{xs:List V} {us:List Value} (n:Nat),Vals xs us->Vals (xs.drop n) (us.drop n)
 |_,_,0,r=>r
 |_,_,_+1,.nil=>.nil
 |_,_,n+1,.cons _ t=>Vals.drop n t
def RelO:Option V->Option Value->Prop
 |some v,some u=>RelV v u
 |none,none=>True
 |_,_=>False
def KV {κ:Type}:List (κ×V)->List (κ×Value)->Prop:=Paired fun (p:κ×V) (q:κ×Value)=>p.1=q.1/\RelV p.2 q.2
def kV:yA->V
 |.inl i=>.int i
 |.inr x=>.str x
inductive MK where
 |one (k:yA)
 |tup (ks:List yA)
 deriving DecidableEq
def MK.hash (P:Program) (w:World):MK->Int
 |.one k=>(DS P w).hash k
 |.tup ks=>tupleKeyHash (DS P w) ks
def entM (P:Program) (w:World) (x:MK×Value×Value):DictEntry:=⟨x.1.hash P w,x.2.1,x.2.2⟩
inductive HO where
 |lst (xs:List V)
 |tup (xs:List V)
 |dK (kvs:List (yA×V))|dT (kvs:List (MK×V))
 |set (S:Int->Bool) (n:Nat)
 |ins (C dx:Addr) (fs:List (Str×V))
 |own (x:Addr)
 |xd (fs:List (Str×V))
 |met (f x:Addr)
 |rng (lo hi:Int)
 |frz (o:Obj) (u:HO)
 |tbl (ps:Array Value)
 |ext (φ:Heap->Prop)
abbrev Hp:=Addr->Option HO
def KyV (H:Hp):MK->Value->Prop
 |.one k,u=>RelV (kV k) u
 |.tup ks,u=> ∃b,u=.ref b/\H b=some (.tup (ks.map kV))
def KyV.mono {H H':Hp} (ht:∀b xs,H b=some (.tup xs)->H' b=some (.tup xs)):∀{k:MK} {u:Value},KyV H k u->KyV H' k u
 |.one _,_,h=>h
 |.tup _,_,⟨b,e,q⟩=>⟨b,e,ht _ _ q⟩
def zl (H:Hp) (a:Addr) (o:HO):Hp:=fun b=>if b=a then some o else H b
def yL {H:Hp} {a:Addr} {o:HO}:zl H a o a=some o:=by unfold zl;rw[Aa rfl]
def zW {H:Hp} {a b:Addr} {o:HO} (h:b≠a):zl H a o b=H b:=by unfold zl;rw[Ab h]
def ql {H:Hp} {a b:Addr} {o:HO} (h:H a=some o) (h':H b=none):a≠b:=by
 intro e;subst e;rw[h]at h';cases h'
section
variable (P:Program) (w:World)
def ObjOk (H:Hp) (h:Heap) (a:Addr):HO->Prop
 |.lst xs=>xs.length<=sizeLine/\∃(its:List Value) (n:Nat),Vals xs its/\h.get? a=some {cls:= .type "list",data:= .seq its.toArray n}
 |.tup xs=>xs.length<=sizeLine/\∃its:List Value,Vals xs its/\IsTup h a its.toArray
 |.dK kvs=>kvs.length<=sizeLine/\(a==sysModules)=false/\∃vs,KV kvs vs/\h.DictOf (DS P w) a vs
 |.dT kvs=>kvs.length<=sizeLine/\(a==sysModules)=false/\∃xs:List (MK×Value×Value),Paired (fun (p:MK×V) (q:MK×Value×Value)=>p.1=q.1/\KyV H p.1 q.2.1/\RelV p.2 q.2.2) kvs xs/\
  ∃o es ep,h.get? a=some o/\o.ExactDict/\o.data=.dict es ep/\es.toList=xs.map (entM P w)/\(xs.map (·.1)).Nodup/\ep=xs.length
 |.set S n=>h.SetOf (intKind P w) a S n
 |.ins C dx fs=>H dx=some (.own a)/\fs.length<=1000/\dx≠a/\h.get? a=some (PySem.W.instObj C dx)/\
  ∃mA,h.Ns1 dx mA/\(∀f,RelO (fs.lookup f) (mA f))/\PySem.Within mA (fs.map (·.1))
 |.own _=> ∃o,h.get? a=some o
 |.xd fs=> ∃mA,h.Ns1 a mA/\∀f,RelO (fs.lookup f) (mA f)
 |.rng lo hi=> ∃t u v,h.get? a=some {cls:= .type "range",data:= .fields #[.int lo t,.int hi u,.int 1 v]}
 |.frz o u=>h.get? a=some o/\ObjOk H h a u
 |.tbl ps=>h.get? a=some {cls:= .none,data:= .fields ps}
 |.met f x=>h.get? a=some (PySem.W.methodObj (.ref f) (.ref x))
 |.ext φ=>φ h/\(∃o,h.get? a=some o)/\∀h1 h2:Heap,φ h1->(∀o,h1.get? a=some o->h2.get? a=some o)->φ h2
def HOk (H:Hp) (h:Heap):Prop:=∀a o,H a=some o->ObjOk P w H h a o
end
section
variable {P:Program} {w:World} {H H':Hp} {h h':Heap} {a:Addr} {o:HO}
theorem ObjOk.lt (x:ObjOk P w H h a o):a<h.objs.size:=by
 cases o with
 |lst xs=>obtain⟨_,_,_,_,e⟩:=x;exact Ae e
 |tup xs=>obtain⟨_,_,_,p⟩:=x;exact p.lt
 |dK kvs=>obtain⟨_,_,_,_,o,_,_,e,_⟩:=x;exact Ae e
 |dT kvs=>obtain⟨_,_,_,_,o,_,_,e,_⟩:=x;exact Ae e
 |set S n=>obtain⟨o,_,_,_,e,_⟩:=x;exact Ae e
 |ins C dx fs=>obtain⟨_,_,_,e,_⟩:=x;exact Ae e
 |own y=>obtain⟨_,e⟩:=x;exact Ae e
 |xd fs=>obtain⟨_,⟨_,_,_,e,_⟩,_⟩:=x;exact Ae e
 |rng lo hi=>obtain⟨_,_,_,e⟩:=x;exact Ae e
 |frz ob u=>obtain⟨e,_⟩:=x;exact Ae e
 |tbl ps=>exact Ae (show h.get? a=some _ from x)
 |met f y=>exact Ae (show h.get? a=some _ from x)
 |ext φ=>obtain⟨_,⟨_,e⟩,_⟩:=x;exact Ae e
theorem Paired.mapP {α β:Type} {F G:α->β->Prop}:∀{l₁:List α} {l₂:List β},Paired F l₁ l₂->(∀a b,F a b->G a b)->Paired G l₁ l₂
 |_,_,.nil,_=>.nil
 |_,_,.cons r t,f=>.cons (f _ _ r) (Paired.mapP t f)
def ObjOk.stay (x:ObjOk P w H h a o) (k:∀b u,(b=a\/H b=some (.own a))->h.get? b=some u->h'.get? b=some u)
  (ho:∀b,H b=some (.own a)->H' b=some (.own a)) (ht:∀b xs,H b=some (.tup xs)->H' b=some (.tup xs)):ObjOk P w H' h' a o:=by
 induction o with
 |lst xs=>obtain⟨z,its,n,r,e⟩:=x;exact⟨z,its,n,r,k _ _ (.inl rfl) e⟩
 |tup xs=>obtain⟨z,its,r,ob,e,c⟩:=x;exact⟨z,its,r,ob,k _ _ (.inl rfl) e,c⟩
 |dK kvs=>obtain⟨z,y,vs,r,ob,es,ep,e,c⟩:=x;exact⟨z,y,vs,r,ob,es,ep,k _ _ (.inl rfl) e,c⟩
 |dT kvs=>
  obtain⟨z,y,xs,r,ob,es,ep,e,c⟩:=x;exact⟨z,y,xs,Paired.mapP r fun p q z=>⟨z.1,z.2.1.mono ht,z.2.2⟩,ob,es,ep,k _ _ (.inl rfl) e,c⟩
 |set S n=>obtain⟨ob,es,ep,t,e,c⟩:=x;exact⟨ob,es,ep,t,k _ _ (.inl rfl) e,c⟩
 |ins C dx fs=>
  obtain⟨d,z,ne,e,mA,⟨od,es,ep,e2,c⟩,r⟩:=x;exact⟨ho _ d,z,ne,k _ _ (.inl rfl) e,mA,⟨od,es,ep,k _ _ (.inr d) e2,c⟩,r⟩
 |own y=>obtain⟨ob,e⟩:=x;exact⟨ob,k _ _ (.inl rfl) e⟩
 |xd fs=>obtain⟨mA,⟨od,es,ep,e,c⟩,r⟩:=x;exact⟨mA,⟨od,es,ep,k _ _ (.inl rfl) e,c⟩,r⟩
 |rng lo hi=>obtain⟨t,u,v,e⟩:=x;exact⟨t,u,v,k _ _ (.inl rfl) e⟩
 |frz ob u ih=>obtain⟨e,q⟩:=x;exact⟨k _ _ (.inl rfl) e,ih q⟩
 |tbl ps=>
  have e:h.get? a=some {cls:= .none,data:= .fields ps}:=x;show h'.get? a=some {cls:= .none,data:= .fields ps};exact k a _ (.inl rfl) e
 |met f y=>
  have e:h.get? a=some (PySem.W.methodObj (.ref f) (.ref y)):=x;show h'.get? a=some (PySem.W.methodObj (.ref f) (.ref y));exact k a _ (.inl rfl) e
 |ext φ=>obtain⟨p,⟨o,e⟩,st⟩:=x;exact⟨st _ _ p fun o q=>k _ _ (.inl rfl) q,⟨o,k _ _ (.inl rfl) e⟩,st⟩
theorem HOk.lt (x:HOk P w H h) (e:H a=some o):a<h.objs.size:=(x a o e).lt
def HOk.fresh (x:HOk P w H h) (e:h.objs.size<=a):H a=none:=by
 cases q:H a with
 |none=>rfl
 |some u=>exact absurd (Au (x.lt q) e) (Bm _)
def HOk.kept (x:HOk P w H h) (k:∀b u,h.get? b=some u->h'.get? b=some u):HOk P w H h':=fun a o e=>
 (x a o e).stay (fun b u _ q=>k b u q) (fun _ q=>q) fun _ _ q=>q
def HOk.laid (x:HOk P w H h) (k:∀b u,h.get? b=some u->h'.get? b=some u) (hp:h.objs.size<=a) (new:ObjOk P w (zl H a o) h' a o):HOk P w (zl H a o) h':=fun b u e=>by
 have hn:=x.fresh hp
 by_cases hb:b=a
 .subst hb;rw[yL]at e;cases e;exact new
 .rw[zW hb]at e
  exact (x b u e).stay (fun c v _ q=>k c v q) (fun c q=>by rw[zW (ql q hn)];exact q) fun c xs q=>by rw[zW (ql q hn)];exact q
end
def Rd (H:Hp) (a:Addr) (u:HO):Prop:=H a=some u\/∃o,H a=some (.frz o u)
def Rd.ok {P:Program} {w:World} {H:Hp} {h:Heap} {a:Addr} {u:HO} (r:Rd H a u) (x:HOk P w H h):ObjOk P w H h a u:=by
 rcases r with r|⟨o,r⟩
 .exact x a u r
 .obtain⟨_,q⟩:=x a _ r
  exact q
def Mut:Option HO->Prop
 |some (.lst _)=>True
 |some (.dK _)=>True
 |some (.dT _)=>True
 |some (.set _ _)=>True
 |some (.ins _ _ _)=>True
 |some (.ext _)=>True
 |_=>False
section
variable {P:Program} {w:World} {H:Hp} {h h':Heap} {x e:Addr} {o':HO}
def HOk.write (ok:HOk P w H h) (mu:Mut (H x)) (he:e=x\/H e=some (.own x)) (k:∀b u,b≠e->h.get? b=some u->h'.get? b=some u) (heo:∃u,h'.get? e=some u)
  (new:ObjOk P w (zl H x o') h' x o'):HOk P w (zl H x o') h':=fun b u q=>by
 have nown:∀c y,H c=some (.own y)->c≠x:=fun c y r z=>by subst z;rw[r]at mu;exact mu
 have ntup:∀c xs,H c=some (.tup xs)->c≠x:=fun c xs r z=>by subst z;rw[r]at mu;exact mu
 by_cases hb:b=x
 .subst hb;rw[yL]at q;cases q;exact new
 .rw[zW hb]at q
  by_cases hbe:b=e
  .have q':H b=some (.own x):=by
    rcases he with z|z
    .exact absurd (hbe.trans z) hb
    .rw[hbe];exact z
   rw[q]at q';cases q';obtain⟨v,hv⟩:=heo;exact⟨v,by rw[hbe];exact hv⟩
  .refine (ok b u q).stay (fun c v hc r=>k c v ?_ r) (fun c r=>by rw[zW (nown c b r)];exact r) fun c xs r=>by rw[zW (ntup c xs r)];exact r
   rcases hc with rfl|hc
   .exact hbe
   .rintro rfl
    rcases he with z|z
    .exact nown c b hc z
    .rw[hc]at z;cases z;exact hb rfl
end
structure Un (fs ex:List Addr) (H H':Hp) (h h':Heap):Prop where
 keep:∀b o,h.get? b=some o->H b=none->b∉fs->b∉ex->h'.get? b=some o
 slot:∀b o,h.get? b=some o->H b=none->b∈fs->b∉ex->∃sl,h'.get? b=some {o with slots:=sl}
 free:∀b o,h.get? b=some o->H b=none->b∉ex->H' b=none
 there:∀b o,h.get? b=some o->b∉ex->∃o',h'.get? b=some o'
 tups:∀b xs,H b=some (.tup xs)->H' b=some (.tup xs)
 frzs:∀b o u,H b=some (.frz o u)->H' b=some (.frz o u)
 tbls:∀b ps,H b=some (.tbl ps)->∃more,H' b=some (.tbl (ps++more))
section
variable {fs fs' ex ex':List Addr} {H H1 H2:Hp} {h h1 h2 h':Heap} {a x e:Addr} {o:HO}
def Un.any (u:Un fs ex H H1 h h1) {b:Addr} {ob:Obj} (q:h.get? b=some ob) (n:H b=none) (hx:b∉ex):∃sl,h1.get? b=some {ob with slots:=sl}:=by
 by_cases hb:b∈fs
 .exact u.slot b ob q n hb hx
 .exact⟨ob.slots,u.keep b ob q n hb hx⟩
def Un.kept (k:∀b u,h.get? b=some u->h'.get? b=some u):Un fs ex H H h h':=
 ⟨fun b ob q _ _ _=>k b ob q,fun b ob q _ _ _=>⟨ob.slots,k b ob q⟩,fun _ _ _ n _=>n,fun b ob q _=>⟨ob,k b ob q⟩,fun _ _ q=>q,fun _ _ _ q=>q,fun _ ps q=>⟨#[],by rw[q];simp⟩⟩
def Un.refl:Un fs ex H H h h:=Un.kept fun _ _ q=>q
def Un.laid (k:∀b u,h.get? b=some u->h'.get? b=some u) (hp:h.objs.size<=a) (hn:H a=none):Un fs ex H (zl H a o) h h' where
 keep:=fun b u q _ _ _=>k b u q
 slot:=fun b u q _ _ _=>⟨u.slots,k b u q⟩
 free:=fun b u q n _=>by rw[zW (Ay (Au (Ae q) hp))];exact n
 there:=fun b u q _=>⟨u,k b u q⟩
 tups:=fun b xs q=>by rw[zW (ql q hn)];exact q
 frzs:=fun b u xs q=>by rw[zW (ql q hn)];exact q
 tbls:=fun b ps q=>⟨#[],by rw[zW (ql q hn),q];simp⟩
def Un.write (mu:Mut (H x)) (he:e=x\/H e=some (.own x)) (k:∀b u,b≠e->h.get? b=some u->h'.get? b=some u) (heo:∃u,h'.get? e=some u):Un fs ex H (zl H x o) h h':=by
 have hx:∀b,H b=none->b≠x:=fun b n z=>by subst z;rw[n]at mu;exact mu
 have hb:∀b,H b=none->b≠e:=fun b n z=>by
  subst z
  rcases he with r|r
  .exact hx b n r
  .rw[n]at r;cases r
 have hm:∀b u,H b=some u->¬Mut (some u)->b≠x:=fun b u q nm z=>by subst z;rw[q]at mu;exact nm mu
 refine⟨fun b u q n _ _=>k b u (hb b n) q,fun b u q n _ _=>⟨u.slots,k b u (hb b n) q⟩,fun b u q n _=>by rw[zW (hx b n)];exact n,fun b u q _=>?_,
  fun b xs q=>by rw[zW (hm b _ q fun z=>z)];exact q,fun b u xs q=>by rw[zW (hm b _ q fun z=>z)];exact q,fun b ps q=>⟨#[],by rw[zW (hm b _ q fun z=>z),q];simp⟩⟩
 by_cases hbe:b=e
 .subst hbe;exact heo
 .exact⟨u,k b u hbe q⟩
end
def trk (h:Heap) (H:Hp):List Addr:=(List.range h.objs.size).filter fun a=>(H a).isSome
def hidT (h:Heap) (H:Hp):Heap:=PySem.W.hideAll h (trk h H)
def JO (h:Heap) (H:Hp):(hidT h H).objs.size=h.objs.size:=PySem.W.hideAll_size _ _
def JP {h:Heap} {H:Hp} {b:Addr} {o:Obj} (e:h.get? b=some o) (n:H b=none):(hidT h H).get? b=some o:=
 PySem.W.hideAll_get _ e fun hm=>by
  have q:(H b).isSome=true:=(List.mem_filter.mp hm).2;rw[n]at q;simp at q
def JQ {h:Heap} {H:Hp} {b:Addr} {o:Obj} (e:(hidT h H).get? b=some o):h.get? b=some o/\H b=none:=by
 have e':h.get? b=some o:=PySem.W.of_hideAll (trk h H) e
 refine⟨e',?_⟩
 cases q:H b with
 |none=>rfl
 |some x=>
  have hm:b∈trk h H:=List.mem_filter.mpr ⟨Br.mpr (Ae e'),by simp[q]⟩
  have z:(hidT h H).get? b=none:=C4 (trk h H) hm;rw[z]at e;cases e
structure Mod (K:FG) (mg:Str->Option Value) (base:Heap):Prop where
 kin:K.In base
 glob:base.Ns mainGlobals mg
 blt:∃mb,base.Ns builtinsNs mb/\∀x:Str,x≠"__name__" ->mb x=bootBuiltins x
 nolimit:base.NoLimit
structure Cx where
 prog:Program
 w:World
 K:FG
 mg:Str->Option Value
 base:Heap
 A:Around
 N:List Str
 s₀:Shared
 H₀:Hp
 env:Env
 outer:List Env
 stack:List Env
 ex:List Addr
 fn:Str->Bool
 calm:Bool
 pn:AL
 xe:VP
abbrev SE (X:Cx) (e:Expr) (es:List Expr):Prop:=starEach (e::es) X.env=(false,eval e X.env)::starEach es X.env
abbrev BA (X:Cx) (pos:Pos) (es:List Expr):Prop:=(backTo pos (starEach es X.env)).any (·.1)=false
def yg (l:List Env):List Addr:=l.filterMap (·.frame)
abbrev Cx.fs (X:Cx):List Addr:=yg X.outer
def Vis (sc:Scope) (x:Str):Prop:=sc.names.lookup x=some .local\/sc.names.lookup x=some .cell\/sc.names.lookup x=some .free
def Loc (sc:Scope) (x:Str):Prop:=sc.names.lookup x=some .local\/sc.names.lookup x=some .cell
def Look (env:Env) (h:Heap) (m:Str->Option Value) (x:Str) (u:Value):Prop:=
 (env.kindOf x=some .local/\m x=some u)\/((env.kindOf x=some .cell\/env.kindOf x=some .free)/\∃c,env.cells.lookup x=some c/\h.IsCell c (some u))
structure Cx.Ok (X:Cx):Prop where
 mod:Mod X.K X.mg X.base
 kind:X.env.scope.kind=.function
 glob:X.env.globals=mainGlobals
 blt:X.env.builtins=builtinsNs
 above:X.s₀.heap.objs.size<=X.env.locals
 inj:∀x y c,X.env.cells.lookup x=some c->X.env.cells.lookup y=some c->x=y
 has:∀x,(X.env.kindOf x=some .cell\/X.env.kindOf x=some .free)->∃c,X.env.cells.lookup x=some c
 cab:∀x c,X.fn x=true->X.env.cells.lookup x=some c->X.s₀.heap.objs.size<=c
 hd:X.calm=true->X.A.handled=none
 frames:X.A.frames=some X.stack
 stk:X.stack=X.outer\/(X.stack=X.env::X.outer/\X.env.frame=some X.env.locals)
 exf:∀b∈X.ex,b≠X.env.locals/\∀x c,X.env.cells.lookup x=some c->c≠b
 bs:∀b o,X.base.get? b=some o->X.s₀.heap.get? b=some o/\X.H₀ b=none
 bsz:X.base.objs.size<=X.s₀.heap.objs.size
 noex:∀b o,X.base.get? b=some o->b∉X.ex
 exfs:∀b∈X.ex,b∉X.fs
 funs:X.s₀.heap.FunFrames X.base X.outer
 frf:∀b∈X.fs,X.H₀ b=none
structure Inv (X:Cx) (pins:AL) (σ:List (Option V)) (H:Hp) (s:Shared):Prop where
 ok:X.Ok
 os:s.os=X.s₀.os
 bare:AllBare s.gens
 base:Un X.fs X.ex X.H₀ H X.s₀.heap s.heap
 loc:∃m,s.heap.Ns X.env.locals m/\∀(i:Nat) (x:Str) (v:V),X.N[i]? =some x->σ[i]? =some (some v)->Vis X.env.scope x->∃u,RelV v u/\Look X.env s.heap m x u
 cell:∀x c,X.env.cells.lookup x=some c->∃v,s.heap.IsCell c v
 free:H X.env.locals=none
 freeC:∀x c,X.env.cells.lookup x=some c->H c=none
 pin:∀p∈X.pn++pins,s.heap.get? p.1=some p.2/\H p.1=none/\p.1≠X.env.locals/\p.1∉X.fs/\∀v,p.2.data≠ .cell v
 hok:HOk X.prog X.w H s.heap
 len:σ.length=X.N.length
section
variable {X:Cx} {pins:AL} {σ:List (Option V)} {H H':Hp} {s:Shared} {h':Heap}
def Cx.Ok.nofr (ok:X.Ok) {b:Addr} {o:Obj} (e:X.base.get? b=some o):b∉X.fs:=fun hb=>by
 have:=(ok.funs.mem hb).1;rw[e]at this;cases this
theorem Inv.bs (I:Inv X pins σ H s):∀b o,X.base.get? b=some o->s.heap.get? b=some o/\H b=none:=fun b o e=>
 ⟨I.base.keep b o (I.ok.bs b o e).1 (I.ok.bs b o e).2 (I.ok.nofr e) (I.ok.noex b o e),I.base.free b o (I.ok.bs b o e).1 (I.ok.bs b o e).2 (I.ok.noex b o e)⟩
def Inv.bk (I:Inv X pins σ H s):∀b o,X.base.get? b=some o->s.heap.get? b=some o:=fun b o e=>(I.bs b o e).1
theorem Inv.mod (I:Inv X pins σ H s):Mod X.K X.mg X.base:=I.ok.mod
def Inv.kIn (I:Inv X pins σ H s):X.K.In s.heap:=I.ok.mod.kin.keeps I.bk
theorem Inv.lt (I:Inv X pins σ H s):X.env.locals<s.heap.objs.size:=let ⟨_,hn,_⟩:=I.loc;hn.lt
def Inv.sz (I:Inv X pins σ H s):X.s₀.heap.objs.size<=s.heap.objs.size:=A1 I.ok.above (Nat.le_of_lt I.lt)
def Inv.nofs (I:Inv X pins σ H s) {a:Addr} (h:s.heap.objs.size<=a):a∉X.fs:=fun hb=>by
 obtain⟨_,o,ho,_⟩:=I.ok.funs.mem hb;exact absurd (Au (Ae ho) (A1 I.sz h)) (Bm _)
def Inv.cne (I:Inv X pins σ H s):∀x c,X.env.cells.lookup x=some c->c≠X.env.locals:=fun x c e z=>by
 obtain⟨v,o,ho,hd⟩:=I.cell x c e;obtain⟨m,⟨o',es,ep,ho',hd',_⟩,_⟩:=I.loc;rw[z,ho']at ho;cases ho;rw[hd']at hd;cases hd
theorem Inv.funs (I:Inv X pins σ H s):s.heap.FunFrames X.base X.outer:=by
 have all:∀(l:List Env),(∀b∈yg l,b∈X.fs)->X.s₀.heap.FunFrames X.base l->s.heap.FunFrames X.base l:=by
  intro l
  induction l with
  |nil=>intro _ _;trivial
  |cons env r ih=>
   intro hs hl;obtain⟨hk,⟨L,o,hf,hn,ho,hd⟩,hr⟩:=hl;have hL:L∈X.fs:=hs L (by unfold yg;rw[Cn,hf];exact Ak)
   obtain⟨sl,e⟩:=I.base.slot L o ho (I.ok.frf L hL) hL fun z=>I.ok.exfs L z hL
   exact⟨hk,⟨L,_,hf,hn,e,hd⟩,ih (fun b hb=>hs b (by unfold yg;rw[Cn,hf];exact Ap _ hb)) hr⟩
 exact all X.outer (fun _ hb=>hb) I.ok.funs
theorem Inv.stack (I:Inv X pins σ H s):s.heap.FunFrames X.base X.stack:=by
 rcases I.ok.stk with e|⟨e,hf⟩
 .rw[e];exact I.funs
 .rw[e]
  obtain⟨m,hn,_⟩:=I.loc
  refine .cons (by rw[I.ok.kind];decide) hf hn ?_ I.funs
  exact Heap.get?_none_of_le (A1 I.ok.bsz I.ok.above)
def Inv.stkSub (I:Inv X pins σ H s):∀b∈yg X.stack,b∈X.env.locals::X.fs:=fun b hb=>by
 rcases I.ok.stk with e|⟨e,hf⟩
 .rw[e]at hb;exact Ap _ hb
 .rw[e]at hb
  unfold yg at hb;rw[Cn,hf]at hb;exact hb
def Inv.stkFree (I:Inv X pins σ H s):∀b∈yg X.stack,H b=none:=fun b hb=>by
 rcases Ai.mp (I.stkSub b hb) with e|hb
 .rw[e];exact I.free
 .obtain⟨_,o,ho,_⟩:=I.ok.funs.mem hb
  exact I.base.free b o ho (I.ok.frf b hb) fun z=>I.ok.exfs b z hb
def Inv.step {g':Array GenState} {t':Nat} {d':Drawn} {ch:List Addr} (I:Inv X pins σ H s)
  (hch:∀b∈ch,(b∈X.ex\/X.s₀.heap.objs.size<=b)/\b≠X.env.locals/\(∀x c,X.env.cells.lookup x=some c->c≠b)/\∀p∈X.pn++pins,p.1≠b)
  (keep:∀b o,b≠X.env.locals->b∉X.fs->b∉ch->s.heap.get? b=some o->H b=none->h'.get? b=some o)
  (slot:∀b o,b≠X.env.locals->b∈X.fs->b∉ch->s.heap.get? b=some o->H b=none->∃sl,h'.get? b=some {o with slots:=sl}) (free:∀b o,b∉ch->s.heap.get? b=some o->H b=none->H' b=none)
  (there:∀b o,b∉ch->s.heap.get? b=some o->∃o',h'.get? b=some o')
  (tups:∀b xs,H b=some (.tup xs)->H' b=some (.tup xs)) (frzs:∀b o u,H b=some (.frz o u)->H' b=some (.frz o u)) (tbls:∀b ps,H b=some (.tbl ps)->∃more,H' b=some (.tbl (ps++more)))
  (ns:∀m,s.heap.Ns X.env.locals m->h'.Ns X.env.locals m) (hok:HOk X.prog X.w H' h') (hg:AllBare g'):
  Inv X pins σ H' {s with heap:=h',gens:=g',drawn:=d',toks:=t'}:=by
 have neL:∀b o,X.s₀.heap.get? b=some o->b≠X.env.locals:=fun b o e=>Ay (Au (Ae e) I.ok.above)
 have neC:∀b o,X.s₀.heap.get? b=some o->b∉X.ex->b∉ch:=fun b o e hx hb=>by
  rcases (hch b hb).1 with z|z
  .exact hx z
  .exact absurd (Au (Ae e) z) (Bm _)
 have cellK:∀x c,X.env.cells.lookup x=some c->∀v,s.heap.IsCell c v->h'.IsCell c v:=fun x c e v ⟨o,ho,hd⟩=>by
  have nch:c∉ch:=fun z=>(hch c z).2.2.1 x c e rfl
  by_cases hc:c∈X.fs
  .obtain⟨sl,q⟩:=slot c o (I.cne x c e) hc nch ho (I.freeC x c e)
   exact⟨_,q,hd⟩
  .exact⟨o,keep c o (I.cne x c e) hc nch ho (I.freeC x c e),hd⟩
 refine⟨I.ok,I.os,hg,⟨fun b o e n hb hx=>?_,fun b o e n hb hx=>?_,fun b o e n hx=>?_,fun b o e hx=>?_,fun b xs e=>tups b xs (I.base.tups b xs e),fun b o xs e=>frzs b o xs (I.base.frzs b o xs e),fun b ps e=>?_⟩,?_,fun x c e=>?_,?_,fun x c e=>?_,fun p hp=>?_,hok,I.len⟩
 .exact keep b o (neL b o e) hb (neC b o e hx) (I.base.keep b o e n hb hx) (I.base.free b o e n hx)
 .obtain⟨sl,e1⟩:=I.base.slot b o e n hb hx
  obtain⟨sl',e2⟩:=slot b _ (neL b o e) hb (neC b o e hx) e1 (I.base.free b o e n hx);exact⟨sl',e2⟩
 .obtain⟨o',e1⟩:=I.base.there b o e hx
  exact free b o' (neC b o e hx) e1 (I.base.free b o e n hx)
 .obtain⟨o',e1⟩:=I.base.there b o e hx
  exact there b o' (neC b o e hx) e1
 .obtain⟨m1,e1⟩:=I.base.tbls b ps e
  obtain⟨m2,e2⟩:=tbls b _ e1;exact⟨m1++m2,by rw[e2,Array.append_assoc]⟩
 .obtain⟨m,hn,hl⟩:=I.loc
  refine⟨m,ns m hn,fun i x v e1 e2 e3=>?_⟩
  obtain⟨u,r,l⟩:=hl i x v e1 e2 e3
  refine⟨u,r,?_⟩
  rcases l with l|⟨k,c,e,z⟩
  .exact .inl l
  .exact .inr ⟨k,c,e,cellK x c e _ z⟩
 .obtain⟨v,z⟩:=I.cell x c e
  exact⟨v,cellK x c e v z⟩
 .obtain⟨m,⟨o,_,_,ho,_⟩,_⟩:=I.loc
  exact free _ o (fun z=>(hch _ z).2.1 rfl) ho I.free
 .obtain⟨v,o,ho,hd⟩:=I.cell x c e
  exact free c o (fun z=>(hch c z).2.2.1 x c e rfl) ho (I.freeC x c e)
 .obtain⟨e,n,ne,nf,d⟩:=I.pin p hp
  have nch:p.1∉ch:=fun z=>(hch p.1 z).2.2.2 p hp rfl
  exact⟨keep p.1 p.2 ne nf nch e n,free p.1 p.2 nch e n,ne,nf,d⟩
def Inv.un {t':Nat} (I:Inv X pins σ H s) (u:Un X.fs [] H H' s.heap h') (hok:HOk X.prog X.w H' h'):Inv X pins σ H' {s with heap:=h',toks:=t'}:=by
 obtain⟨m,⟨o,es,ep,ho,r⟩,_⟩:=id I.loc;obtain⟨sl,hL⟩:=u.any ho I.free (by simp)
 exact I.step (g':=s.gens) (d':=s.drawn) (ch:=[]) (fun _ z=>nomatch z) (fun b o _ hb _ e n=>u.keep b o e n hb (by simp)) (fun b o _ hb _ e n=>u.slot b o e n hb (by simp)) (fun b o _ e n=>u.free b o e n (by simp)) (fun b o _ e=>u.there b o e (by simp)) u.tups u.frzs u.tbls (fun m' hm=>by
  obtain⟨o',es',ep',ho',r'⟩:=hm;rw[ho]at ho';cases ho';exact⟨_,es',ep',hL,r'⟩) hok I.bare
def Inv.call {g':Array GenState} {t':Nat} {d':Drawn} {ch:List Addr} (I:Inv X pins σ H s) (u:Un (yg X.stack) ch H H' s.heap h') (hok:HOk X.prog X.w H' h') (hg:AllBare g')
  (hch:∀b∈ch,(b∈X.ex\/X.s₀.heap.objs.size<=b)/\b≠X.env.locals/\(∀x c,X.env.cells.lookup x=some c->c≠b)/\∀p∈X.pn++pins,p.1≠b):
  Inv X pins σ H' {s with heap:=h',gens:=g',drawn:=d',toks:=t'}:=by
 obtain⟨m,⟨o,es,ep,ho,r⟩,_⟩:=id I.loc;obtain⟨sl,hL⟩:=u.any ho I.free fun z=>(hch _ z).2.1 rfl
 exact I.step (ch:=ch) hch (fun b o hL hb hc e n=>u.keep b o e n (fun z=>(Ai.mp (I.stkSub b z)).elim hL hb) hc) (fun b o _ _ hc e n=>u.any e n hc) (fun b o hc e n=>u.free b o e n hc) (fun b o hc e=>u.there b o e hc) u.tups u.frzs u.tbls (fun m' hm=>by
  obtain⟨o',es',ep',ho',r'⟩:=hm;rw[ho]at ho';cases ho';exact⟨_,es',ep',hL,r'⟩) hok hg
def Inv.turned {t':Nat} {it:Addr} (I:Inv X pins σ H s) (k:∀b o,b≠it->s.heap.get? b=some o->h'.get? b=some o) (hn:H it=none) (hL:it≠X.env.locals)
  (h1:it∈X.ex\/X.s₀.heap.objs.size<=it) (h2:∀x c,X.env.cells.lookup x=some c->c≠it) (h3:∀p∈X.pn++pins,p.1≠it):Inv X pins σ H {s with heap:=h',toks:=t'}:=by
 have nit:∀b u,H b=some u->b≠it:=fun b u e z=>by rw[z,hn]at e;cases e
 refine I.step (g':=s.gens) (d':=s.drawn) (ch:=[it]) (fun b hb=>?_) (fun b o _ _ hc e _=>k b o (fun z=>hc (by simp[z])) e) (fun b o _ _ hc e _=>⟨o.slots,k b o (fun z=>hc (by simp[z])) e⟩) (fun _ _ _ _ n=>n)
  (fun b o hc e=>⟨o,k b o (fun z=>hc (by simp[z])) e⟩) (fun _ _ e=>e) (fun _ _ _ e=>e) (fun b ps e=>⟨#[],by rw[e];simp⟩) (fun m hm=>?_) (fun b u e=>?_) I.bare
 .have e:b=it:=by simpa using hb
  subst e;exact⟨h1,hL,h2,h3⟩
 .obtain⟨o,es,ep,ho,r⟩:=hm
  exact⟨o,es,ep,k _ o (Ne.symm hL) ho,r⟩
 .refine (I.hok b u e).stay (fun c v hc q=>k c v ?_ q) (fun _ q=>q) fun _ _ q=>q
  rcases hc with z|z
  .rw[z];exact nit b u e
  .exact nit c _ z
def Inv.tok (I:Inv X pins σ H s) (t:Nat):Inv X pins σ H {s with toks:=t}:=I.un (h':=s.heap) (t':=t) Un.refl I.hok
theorem Inv.kept {t':Nat} (I:Inv X pins σ H s) (k:∀b u,s.heap.get? b=some u->h'.get? b=some u):Inv X pins σ H {s with heap:=h',toks:=t'}:=I.un (Un.kept k) (I.hok.kept k)
theorem Inv.laid {a:Addr} {o:HO} {t':Nat} (I:Inv X pins σ H s) (k:∀b u,s.heap.get? b=some u->h'.get? b=some u) (hp:s.heap.objs.size<=a) (new:ObjOk X.prog X.w (zl H a o) h' a o):
 Inv X pins σ (zl H a o) {s with heap:=h',toks:=t'}:=I.un (Un.laid k hp (I.hok.fresh hp)) (I.hok.laid k hp new)
theorem Inv.write {x e:Addr} {o:HO} {t':Nat} (I:Inv X pins σ H s) (mu:Mut (H x)) (he:e=x\/H e=some (.own x)) (k:∀b u,b≠e->s.heap.get? b=some u->h'.get? b=some u) (heo:∃u,h'.get? e=some u)
 (new:ObjOk X.prog X.w (zl H x o) h' x o):Inv X pins σ (zl H x o) {s with heap:=h',toks:=t'}:=I.un (Un.write mu he k heo) (I.hok.write mu he k heo new)
def Inv.pins_of {pins':AL} (I:Inv X pins σ H s) (h:∀p∈pins',s.heap.get? p.1=some p.2/\H p.1=none/\p.1≠X.env.locals/\p.1∉X.fs/\∀v,p.2.data≠ .cell v):Inv X pins' σ H s:=
 ⟨I.ok,I.os,I.bare,I.base,I.loc,I.cell,I.free,I.freeC,fun p hp=>(Aq.mp hp).elim (fun z=>I.pin p (List.mem_append_left _ z)) (h p),I.hok,I.len⟩
def GV {N:List Str} (hN:N.Nodup) {i j:Nat} {x:Str} (a:N[i]? =some x) (b:N[j]? =some x):i=j:=by
 obtain⟨h1,e1⟩:=Av.mp a;obtain⟨h2,e2⟩:=Av.mp b;exact (List.getElem_inj hN).mp (e1.trans e2.symm)
def JR {M:Model} {A:Around} {E:VP} {i:Nat} {x:Str} {v:V} {u:Value} {Q:Unit->Shared->Prop} (I:Inv X pins σ H s) (hN:X.N.Nodup) (hi:X.N[i]? =some x) (hx:Loc X.env.scope x) (r:RelV v u)
  (h:∀s',Inv X pins (σ.set i (some v)) H s'->(∃a,Heap.SameBut a s.heap s'.heap/\(a=X.env.locals\/X.env.cells.lookup x=some a))->Q () s') (hf:X.fn x=true\/X.env.scope.names.lookup x=some .local:=by first|exact .inl rfl|exact .inr rfl|assumption):wpAny M A (storeName X.env x u) Q E s:=by
 obtain⟨m,hn,hl⟩:=id I.loc;have hcls:(X.env.scope.kind== .class || (X.env.scope.kind== .module && X.env.locals !=X.env.globals))=false:=by rw[I.ok.kind];rfl
 have hiσ:i<σ.length:=by rw[I.len];exact (Av.mp hi).1
 have cne:=I.cne;have tracked:∀{a:Addr} {h':Heap},(∃o,s.heap.get? a=some o/\H a=none)->Heap.SameBut a s.heap h'->HOk X.prog X.w H h':=fun {a h'} ha hs b ob e=>by
  obtain⟨_,_,hfree⟩:=ha
  refine (I.hok b ob e).stay (fun c w' hc q=>(hs.2 c ?_).trans q) (fun _ q=>q) fun _ _ q=>q
  rintro rfl
  rcases hc with rfl|hc
  .rw[hfree]at e;cases e
  .rw[hfree]at hc;cases hc
 rcases hx with hk|hk
 .refine wpAny_storeName_local hk hn (fun h' hn' hs=>?_) hcls
  obtain⟨oL,_,_,hoL,_⟩:=id hn
  refine h _ ⟨I.ok,I.os,I.bare,⟨fun b o e n hb hx=>?_,fun b o e n hb hx=>?_,I.base.free,fun b o e hx=>?_,I.base.tups,I.base.frzs,I.base.tbls⟩,⟨_,hn',fun j y v' e1 e2 e3=>?_⟩,fun y c e=>?_,I.free,I.freeC,fun p hp=>?_,tracked ⟨oL,hoL,I.free⟩ hs,by simpa using I.len⟩ ⟨_,hs,.inl rfl⟩
  .exact (hs.2 b (Ay (Au (Ae e) I.ok.above))).trans (I.base.keep b o e n hb hx)
  .obtain⟨sl,e1⟩:=I.base.slot b o e n hb hx
   exact⟨sl,(hs.2 b (Ay (Au (Ae e) I.ok.above))).trans e1⟩
  .obtain⟨o',e1⟩:=I.base.there b o e hx
   exact⟨o',(hs.2 b (Ay (Au (Ae e) I.ok.above))).trans e1⟩
  .by_cases hj:j=i
   .subst hj
    rw[hi]at e1;cases e1;rw[List.getElem?_set_self hiσ]at e2
    cases e2;exact⟨u,r,.inl ⟨hk,by simp⟩⟩
   .rw[List.getElem?_set_ne (Ne.symm hj)]at e2
    obtain⟨u',r',q⟩:=hl j y v' e1 e2 e3
    refine⟨u',r',?_⟩
    rcases q with ⟨k,e⟩|⟨k,c,e,z⟩
    .refine .inl ⟨k,?_⟩
     have:y≠x:=fun e=>hj (GV hN e1 (e ▸ hi))
     simp[this,e]
    .exact .inr ⟨k,c,e,z.sameBut hs (cne y c e)⟩
  .obtain⟨w',z⟩:=I.cell y c e
   exact⟨w',z.sameBut hs (cne y c e)⟩
  .obtain⟨e,n,ne,nf,d⟩:=I.pin p hp
   exact⟨(hs.2 p.1 ne).trans e,n,ne,nf,d⟩
 .have hfn:X.fn x=true:=by
   rcases hf with z|z
   .exact z
   .rw[z]at hk;cases hk
  obtain⟨c,hc⟩:=I.ok.has x (.inl hk);obtain⟨w',z⟩:=I.cell x c hc
  refine wpAny_storeName_cell I.ok.kind hk hc z (fun h' hc' hs=>?_)
  obtain⟨oc,hoc,hocd⟩:=id z
  refine h {s with heap:=h'} ⟨I.ok,I.os,I.bare,⟨fun b o e n hb hx=>?_,fun b o e n hb hx=>?_,I.base.free,fun b o e hx=>?_,I.base.tups,I.base.frzs,I.base.tbls⟩,⟨m,hn.sameBut hs (Ne.symm (cne x c hc)),fun j y v' e1 e2 e3=>?_⟩,fun y c' e=>?_,I.free,I.freeC,fun p hp=>?_,tracked ⟨oc,hoc,I.freeC x c hc⟩ hs,by simpa using I.len⟩ ⟨c,hs,.inr hc⟩
  .exact (hs.2 b (Ay (Au (Ae e) (I.ok.cab x c hfn hc)))).trans (I.base.keep b o e n hb hx)
  .obtain⟨sl,e1⟩:=I.base.slot b o e n hb hx
   exact⟨sl,(hs.2 b (Ay (Au (Ae e) (I.ok.cab x c hfn hc)))).trans e1⟩
  .obtain⟨o',e1⟩:=I.base.there b o e hx
   exact⟨o',(hs.2 b (Ay (Au (Ae e) (I.ok.cab x c hfn hc)))).trans e1⟩
  .by_cases hj:j=i
   .subst hj
    rw[hi]at e1;cases e1;rw[List.getElem?_set_self hiσ]at e2
    cases e2;exact⟨u,r,.inr ⟨.inl hk,c,hc,hc'⟩⟩
   .rw[List.getElem?_set_ne (Ne.symm hj)]at e2
    obtain⟨u',r',q⟩:=hl j y v' e1 e2 e3
    refine⟨u',r',?_⟩
    rcases q with q|⟨k,c',e,z'⟩
    .exact .inl q
    .refine .inr ⟨k,c',e,z'.sameBut hs ?_⟩
     rintro rfl;exact hj (GV hN e1 (I.ok.inj _ _ _ e hc ▸ hi))
  .by_cases hcc:c'=c
   .subst hcc;exact⟨_,hc'⟩
   .obtain⟨w2,z2⟩:=I.cell y c' e
    exact⟨w2,z2.sameBut hs hcc⟩
  .obtain⟨e,n,ne,nf,d⟩:=I.pin p hp
   refine⟨(hs.2 p.1 ?_).trans e,n,ne,nf,d⟩
   intro q;rw[q,hoc]at e;have q':oc=p.2:=Option.some.inj e;exact d w' (by rw[<-q'];exact hocd)
def EJ {M:Model} {A:Around} {E:VP} {i:Nat} {x:Str} {v:V} {u:Value} {Q:Unit->Shared->Prop} (I:Inv X pins σ H s) (hN:X.N.Nodup) (hi:X.N[i]? =some x) (hx:Loc X.env.scope x) (r:RelV v u)
  (h:∀s',Inv X pins (σ.set i (some v)) H s'->Q () s') (hf:X.fn x=true\/X.env.scope.names.lookup x=some .local:=by first|exact .inl rfl|exact .inr rfl|assumption):wpAny M A (storeName X.env x u) Q E s:=
 JR I hN hi hx r (fun s' I' _=>h s' I') hf
def Inv.call' {s':Shared} {ch:List Addr} (I:Inv X pins σ H s) (ho:s'.os=s.os) (u:Un (yg X.stack) ch H H' s.heap s'.heap) (hok:HOk X.prog X.w H' s'.heap) (hg:AllBare s'.gens)
  (hch:∀b∈ch,(b∈X.ex\/X.s₀.heap.objs.size<=b)/\b≠X.env.locals/\(∀x c,X.env.cells.lookup x=some c->c≠b)/\∀p∈X.pn++pins,p.1≠b):Inv X pins σ H' s':=by
 obtain⟨h',g',d',t',o'⟩:=s';have e:o'=s.os:=ho;subst e;exact I.call (g':=g') (t':=t') (d':=d') u hok hg hch
end
abbrev XK:=Value->Option Addr->Hp->Prop
abbrev St:=List (Option V)
abbrev VK:=V->Hp->Prop
abbrev TE:=St->Hp->VK->Prop
abbrev TT:=St->Hp->(Bool->Hp->Prop)->Prop
abbrev TA:=St->Hp->(List V->Hp->Prop)->Prop
structure Ends where
 nx:St->Hp->Prop
 rt:VK
 bk:St->Hp->Prop:=fun _ _=>False
 ct:St->Hp->Prop:=fun _ _=>False
abbrev TS:=Ends->St->Hp->Prop
def EP (X:Cx) (pins:AL) (σ:St) (Q:VK) (u:Value) (s':Shared):Prop:=∃v H',Inv X pins σ H' s'/\RelV v u/\Q v H'
def TP (X:Cx) (pins:AL) (σ:St) (Q:Bool->Hp->Prop) (b:Bool) (s':Shared):Prop:=∃H',Inv X pins σ H' s'/\Q b H'
def AP (X:Cx) (pins:AL) (σ:St) (Q:List V->Hp->Prop) (us:List Value) (s':Shared):Prop:=∃vs H',Inv X pins σ H' s'/\Vals vs us/\Q vs H'
def SP (X:Cx) (pins:AL) (D:Ends) (f:Flow) (s':Shared):Prop:=
 match f with
 |.next=> ∃σ' H',Inv X pins σ' H' s'/\D.nx σ' H'
 |.brk=> ∃σ' H',Inv X pins σ' H' s'/\D.bk σ' H'
 |.cont=> ∃σ' H',Inv X pins σ' H' s'/\D.ct σ' H'
 |.ret u=> ∃v σ' H',Inv X pins σ' H' s'/\RelV v u/\D.rt v H'
def PE (X:Cx) (e:Expr) (t:TE):Prop:=
 ∀(pins:AL) (s:Shared) (σ:St) (H:Hp) (Q:VK),Inv X pins σ H s->t σ H Q->wpAny (model X.prog X.w) X.A (eval e X.env) (EP X pins σ Q) X.xe s
def PT (X:Cx) (e:Expr) (t:TT):Prop:=
 ∀(pins:AL) (s:Shared) (σ:St) (H:Hp) (Q:Bool->Hp->Prop),Inv X pins σ H s->t σ H Q->wpAny (model X.prog X.w) X.A (isTrue e X.env (eval e X.env)) (TP X pins σ Q) X.xe s
def PW (X:Cx) (e:Expr) (t:TT):Prop:=
 ∀(whole:Sem Value) (pins:AL) (s:Shared) (σ:St) (H:Hp) (Q:Bool->Hp->Prop),Inv X pins σ H s->t σ H Q->wpAny (model X.prog X.w) X.A (isTrue e X.env whole) (TP X pins σ Q) X.xe s
def PW.pt {X:Cx} {e:Expr} {t:TT} (h:PW X e t):PT X e t:=h _
def PA (X:Cx) (es:List Expr) (t:TA):Prop:=
 ∀(pos:Pos) (pins:AL) (s:Shared) (σ:St) (H:Hp) (Q:List V->Hp->Prop),Inv X pins σ H s->t σ H Q->wpAny (model X.prog X.w) X.A (spliced (backTo pos (starEach es X.env))) (AP X pins σ Q) X.xe s
def PS (X:Cx) (st:Stmt) (t:TS):Prop:=
 ∀(pins:AL) (s:Shared) (σ:St) (H:Hp) (D:Ends),Inv X pins σ H s->t D σ H->wpAny (model X.prog X.w) X.A (exec st X.env) (SP X pins D) X.xe s
def yj (X:Cx) (st:List Stmt) (t:TS):Prop:=
 ∀(pins:AL) (s:Shared) (σ:St) (H:Hp) (D:Ends),Inv X pins σ H s->t D σ H->wpAny (model X.prog X.w) X.A (execs st X.env) (SP X pins D) X.xe s
def zr {α:Type} {t:Sem α} {Q Q':α->Shared->Prop} {M:Model} {A:Around} {E:VP} {s:Shared} (h:wpAny M A t Q E s) (hQ:∀a s,Q a s->Q' a s):wpAny M A t Q' E s:=A5 h hQ fun _ _ x=>x
section
variable {X:Cx}
def tVar (i:Nat):TE:=fun σ H Q=> ∃v,σ[i]? =some (some v)/\Q v H
def tC (v:V):TE:=fun _ H Q=>Q v H
def JS {i:Nat} {x:Str} {pos:Pos} (hN:X.N[i]? =some x) (hv:Vis X.env.scope x) (hd:(x==("__debug__" :Str))=false:=by decide) (hcd:(x==("__classdict__" :Str))=false:=by decide):PE X (.Name x pos) (tVar i):=by
 intro pins s σ H Q I h;obtain⟨v,e,h⟩:=h;obtain⟨m,hn,hl⟩:=I.loc;obtain⟨u,r,l⟩:=hl i x v hN e hv;have fin:EP X pins σ Q u s:=⟨v,H,I,r,h⟩
 rcases l with ⟨hk,hm⟩|⟨hk,c,hc,hcell⟩
 .exact wpAny_Name (wpAny_loadName_local I.ok.kind hk hn hm fin) hd
 .rcases hk with hk|hk
  .exact wpAny_Name (wpAny_loadName_cell I.ok.kind hk hc hcell fin) hd
  .exact wpAny_Name (wpAny_loadName_free I.ok.kind hk hc hcell fin hcd) hd
def JT {i j pos}:PE X (.Constant (.int i) j pos) (tC (.int i)):=fun _ _ _ H _ I h=>wpAny_Constant_int ⟨.int i,H,I.tok _,⟨_,rfl⟩,h⟩
def JU {b j pos}:PE X (.Constant (.bool b) j pos) (tC (.bl b)):=fun _ _ _ H _ I h=>Constant_bool ⟨.bl b,H,I,rfl,h⟩
def JV {x j pos}:PE X (.Constant (.str x) j pos) (tC (.str x)):=fun _ _ _ H _ I h=>Calls.Constant_str ⟨.str x,H,I.tok _,⟨_,rfl⟩,h⟩
def Gl (X:Cx) (x:Str):Prop:=X.env.kindOf x=some .globalImplicit
def GW {E:VP} {pins:AL} {s:Shared} {σ:St} {H:Hp} {x:Str} {u:Value} {pos:Pos} {Q:VP} (I:Inv X pins σ H s) (hg:Gl X x) (hm:X.mg x=some u) (h:Q u s)
  (hd:(x==("__debug__" :Str))=false:=by decide):wpAny (model X.prog X.w) X.A (eval (.Name x pos) X.env) Q E s:=
 Calls.Name_function_global I.ok.kind hg (Calls.loadGlobal_global (by rw[I.ok.glob];exact I.mod.glob.keeps I.bk) hm h) hd
def Dl {E:VP} {pins:AL} {s:Shared} {σ:St} {H:Hp} {x:Str} {u:Value} {pos:Pos} {Q:VP} (I:Inv X pins σ H s) (hg:Gl X x) (hm:X.mg x=none) (hv:bootBuiltins x=some u) (h:Q u s)
  (hn:x≠"__name__" :=by decide) (hd:(x==("__debug__" :Str))=false:=by decide):wpAny (model X.prog X.w) X.A (eval (.Name x pos) X.env) Q E s:=by
 obtain⟨mb,h1,h2⟩:=I.mod.blt;exact Calls.Name_function_global I.ok.kind hg (Calls.loadGlobal_builtin (by rw[I.ok.glob];exact I.mod.glob.keeps I.bk) hm (by rw[I.ok.blt];exact h1.keeps I.bk) ((h2 x hn).trans hv) h) hd
def AI {x:Str} {v:V} {u:Value} {pos:Pos} (hg:Gl X x) (hm:X.mg x=some u) (r:RelV v u) (hd:(x==("__debug__" :Str))=false:=by decide):PE X (.Name x pos) (tC v):=
 fun _ _ _ H _ I h=>GW I hg hm ⟨v,H,I,r,h⟩ hd
def CK {x:Str} {v:V} {u:Value} {pos:Pos} (hg:Gl X x) (hm:X.mg x=none) (hv:bootBuiltins x=some u) (r:RelV v u) (hn:x≠"__name__" :=by decide) (hd:(x==("__debug__" :Str))=false:=by decide):PE X (.Name x pos) (tC v):=
 fun _ _ _ H _ I h=>Dl I hg hm hv ⟨v,H,I,r,h⟩ hn hd
variable {a b:Expr} {ta tb:TE} {pos:Pos}
def tB (t:TE):TT:=fun σ H Q=>t σ H fun x H1=> ∃c,x=.bl c/\Q c H1
def JW {e:Expr} {t:TE} (h:PE X e t) (he:∀whole,isTrue e X.env whole=(do let v <-whole;standAt e.pos;holding [v] (truthy v)):=by intro _;rfl):PT X e (tB t):=by
 intro pins s σ H Q I hw
 refine isTrue_plain (zr (h pins s σ H _ I hw) fun v s1 ⟨x,H1,I1,r1,q1⟩=>?_) (he _)
 obtain⟨d,rfl,q⟩:=q1;cases r1;exact Bf ⟨H1,I1,q⟩
variable {tA tB':TT} {rest:List Expr}
def tOr (t u:TT):TT:=fun σ H Q=>t σ H fun c H1=>if c=true then Q true H1 else u σ H1 Q
def tNot (t:TT):TT:=fun σ H Q=>t σ H fun c H1=>Q (!c) H1
def JX (ha:PT X a tA):PW X (.BoolOp .Or [a] pos) tA:=by
 intro wh pins s σ H Q I h
 refine isTrue_or (zr (ha pins s σ H Q I h) fun c s1 e=>?_)
 cases c with
 |false=>exact isTrue_or_nil e
 |true=>exact e
def JY (ha:PT X a tA) (hb:PW X (.BoolOp .Or (b::rest) pos) tB'):PW X (.BoolOp .Or (a::b::rest) pos) (tOr tA tB'):=by
 intro wh pins s σ H Q I h
 refine isTrue_or (zr (ha pins s σ H _ I h) fun c s1 ⟨H1,I1,q1⟩=>?_)
 cases c with
 |true=>exact⟨H1,I1,q1⟩
 |false=>exact hb wh pins s1 σ H1 Q I1 q1
def JZ (ha:PT X a tA):PT X (.UnaryOp .Not a pos) (tNot tA):=by
 intro pins s σ H Q I h;exact isTrue_not (ha pins s σ H (fun c H1=>Q (!c) H1) I h)
def Ka (ta tb:TE):TE:=fun σ H Q=>ta σ H fun x H1=> ∃c,x=.bl c/\if c=true then tb σ H1 Q else Q (.bl false) H1
def tOrV (ta tb:TE):TE:=fun σ H Q=>ta σ H fun x H1=> ∃c,x=.bl c/\if c=true then Q (.bl true) H1 else tb σ H1 Q
def Kb (ta:TE):TE:=fun σ H Q=>ta σ H fun x H1=> ∃c,x=.bl c/\Q (.bl (!c)) H1
def Kc {op} {t:TE} (h:PE X a t):PE X (.BoolOp op [a] pos) t:=fun pins s σ H Q I hw=>BoolOp_one (h pins s σ H Q I hw)
def Ke (ha:PE X a ta) (hb:PE X (.BoolOp .And (b::rest) pos) tb):PE X (.BoolOp .And (a::b::rest) pos) (Ka ta tb):=by
 intro pins s σ H Q I h
 refine BoolOp_and (zr (ha pins s σ H _ I h) fun v s1 ⟨x,H1,I1,r1,q1⟩=>?_)
 obtain⟨c,rfl,q1⟩:=q1;cases r1
 refine Bf ?_
 cases c with
 |true=>exact hb pins s1 σ H1 Q I1 q1
 |false=>exact⟨.bl false,H1,I1,rfl,q1⟩
def Kf (ha:PE X a ta) (hb:PE X (.BoolOp .Or (b::rest) pos) tb):PE X (.BoolOp .Or (a::b::rest) pos) (tOrV ta tb):=by
 intro pins s σ H Q I h
 refine BoolOp_or (zr (ha pins s σ H _ I h) fun v s1 ⟨x,H1,I1,r1,q1⟩=>?_)
 obtain⟨c,rfl,q1⟩:=q1;cases r1
 refine Bf ?_
 cases c with
 |false=>exact hb pins s1 σ H1 Q I1 q1
 |true=>exact⟨.bl true,H1,I1,rfl,q1⟩
def Kg (ha:PE X a ta):PE X (.UnaryOp .Not a pos) (Kb ta):=by
 intro pins s σ H Q I h
 refine UnaryOp_ (zr (ha pins s σ H _ I h) fun v s1 ⟨x,H1,I1,r1,q1⟩=>?_)
 obtain⟨c,rfl,q1⟩:=q1;cases r1;exact not_of (Bf ⟨.bl (!c),H1,I1,rfl,q1⟩)
def tIf (t:TT) (ta tb:TE):TE:=fun σ H Q=>t σ H fun c H1=>if c=true then ta σ H1 Q else tb σ H1 Q
def Kh {c:Expr} (hc:PT X c tA) (ha:PE X a ta) (hb:PE X b tb):PE X (.IfExp c a b pos) (tIf tA ta tb):=by
 intro pins s σ H Q I h
 refine wpAny_IfExp (zr (hc pins s σ H _ I h) fun d s1 ⟨H1,I1,q1⟩=>?_)
 cases d with
 |true=>exact ha pins s1 σ H1 Q I1 q1
 |false=>exact hb pins s1 σ H1 Q I1 q1
end
def SqL (K:FG) (H:Hp) (a:Addr) (xs:List V):Prop:=
 Rd H a (.lst xs)\/
  ∃(o:Obj) (its:Array Value) (n:Nat),K.lookup a=some o/\o.cls=.type "list" /\o.dict=none/\o.data=.seq its n/\its.size<=sizeLine/\Vals xs its.toList
def SqT (K:FG) (H:Hp) (a:Addr) (xs:List V):Prop:=
 Rd H a (.tup xs)\/
  ∃(o:Obj) (its:Array Value) (n:Nat),K.lookup a=some o/\o.cls=.type "tuple" /\o.data=.seq its n/\its.size<=sizeLine/\Vals xs its.toList
def absV:Value->Option V
 |.none=>some .non
 |.bool b=>some (.bl b)
 |.int i _=>some (.int i)
 |.str x _=>some (.str x)
 |.bytes b _=>some (.byt b)
 |.float b _=>some (.flt b)
 |.ref a=>some (.ref a)
 |.type n=>some (.ty n)
 |_=>none
def RelV.abs {x:V} {u:Value} (r:RelV x u):absV u=some x:=by
 cases x with
 |non=>cases r;rfl
 |bl _=>cases r;rfl
 |int _=>obtain⟨t,rfl⟩:=r;rfl
 |str _=>obtain⟨t,rfl⟩:=r;rfl
 |byt _=>obtain⟨t,rfl⟩:=r;rfl
 |flt _=>obtain⟨t,rfl⟩:=r;rfl
 |ref _=>cases r;rfl
 |ty _=>cases r;rfl
theorem RelV.inj {x y:V} {u:Value} (r:RelV x u) (q:RelV y u):x=y:=Option.some.inj (r.abs.symm.trans q.abs)
theorem Vals.inj:∀{xs ys:List V} {us:List Value},Vals xs us->Vals ys us->xs=ys
 |_,_,_,.nil,.nil=>rfl
 |_,_,_,.cons r t,.cons r' t'=>by rw[r.inj r',Vals.inj t t']
section
variable {X:Cx} {pins:AL} {σ:St} {H:Hp} {s:Shared} {a:Addr} {xs ys:List V}
def SqL.of {K:FG} (h:H a=some (.lst xs)):SqL K H a xs:= .inl (.inl h)
def SqT.of {K:FG} (h:H a=some (.tup xs)):SqT K H a xs:= .inl (.inl h)
def Inv.list (I:Inv X pins σ H s) (h:SqL X.K H a xs):∃its:List Value,Vals xs its/\PlainL s.heap a its.toArray/\xs.length<=sizeLine:=by
 rcases h with h|⟨o,its,n,hk,hc,hd,hs,hz,r⟩
 .obtain⟨z,its,n,r,e⟩:=h.ok I.hok
  exact⟨its,r,⟨_,n,e,rfl,rfl,rfl⟩,z⟩
 .refine⟨its.toList,r,⟨o,n,I.kIn a o hk,hc,hd,by simpa using hs⟩,?_⟩
  have e:=r.length;simp only[Array.length_toList]at e;lia
def Inv.tuple (I:Inv X pins σ H s) (h:SqT X.K H a xs):∃its:List Value,Vals xs its/\IsTup s.heap a its.toArray/\xs.length<=sizeLine:=by
 rcases h with h|⟨o,its,n,hk,hc,hs,hz,r⟩
 .obtain⟨z,its,r,p⟩:=h.ok I.hok
  exact⟨its,r,p,z⟩
 .refine⟨its.toList,r,⟨o,I.kIn a o hk,hc,n,by simpa using hs⟩,?_⟩
  have e:=r.length;simp only[Array.length_toList]at e;lia
def Inv.list_inj (I:Inv X pins σ H s) (h:SqL X.K H a xs) (h':SqL X.K H a ys):xs=ys:=by
 obtain⟨its,r,⟨o,n,e,_,_,d⟩,_⟩:=I.list h;obtain⟨its',r',⟨o',n',e',_,_,d'⟩,_⟩:=I.list h';rw[e]at e';cases e';rw[d]at d';injection d' with d1 _
 have:its=its':=by simpa using congrArg Array.toList d1
 subst this;exact r.inj r'
def Inv.tuple_inj (I:Inv X pins σ H s) (h:SqT X.K H a xs) (h':SqT X.K H a ys):xs=ys:=by
 obtain⟨its,r,⟨o,e,_,n,d⟩,_⟩:=I.tuple h;obtain⟨its',r',⟨o',e',_,n',d'⟩,_⟩:=I.tuple h';rw[e]at e';cases e';rw[d]at d';injection d' with d1 _
 have:its=its':=by simpa using congrArg Array.toList d1
 subst this;exact r.inj r'
end
section
variable {X:Cx} {st:Stmt} {rest:List Stmt} {t u:TS} {e:Expr} {te:TE} {pos:Pos}
def Ki:TS:=fun D σ H=>D.nx σ H
def tSeq (t u:TS):TS:=fun D σ H=>t {D with nx:=u D} σ H
def Kj:yj X [] Ki:=fun _ _ σ H _ I h=>wpAny_execs_nil ⟨σ,H,I,h⟩
def Kk (h1:PS X st t) (h2:yj X rest u):yj X (st::rest) (tSeq t u):=by
 intro pins s σ H D I h
 refine wpAny_execs_cons (zr (h1 pins s σ H {D with nx:=u D} I h) fun f s1 q=>?_)
 cases f with
 |next=>
  obtain⟨σ',H',I',q⟩:=q;exact h2 pins s1 σ' H' D I' q
 |ret v=>exact q
 |brk=>exact q
 |cont=>exact q
def Kl (h1:PS X st t):yj X [st] t:=by
 intro pins s σ H D I h
 refine wpAny_execs_cons (zr (h1 pins s σ H D I h) fun f s1 q=>?_)
 cases f with
 |next=>exact wpAny_execs_nil q
 |ret v=>exact q
 |brk=>exact q
 |cont=>exact q
def Inv.quiet {pins:AL} {σ:St} {H:Hp} {s:Shared} (I:Inv X pins σ H s):interactive X.env=false:=by simp[interactive,I.ok.kind]
def Km (te:TE):TS:=fun D σ H=>te σ H fun _ H1=>D.nx σ H1
def GX (he:PE X e te) (hs:swapsWith e none pos.line X.env=pure false:=by rfl):PS X (.Expr e pos) (Km te):=by
 intro pins s σ H D I h;exact wpAny_Expr_any (zr (he pins s σ H _ I h) fun v s1 ⟨x,H1,I1,r1,q1⟩=>⟨σ,H1,I1,q1⟩) I.quiet hs
def tRet (te:TE):TS:=fun D σ H=>te σ H D.rt
def GY (he:PE X e te):PS X (.Return (some e) pos) (tRet te):=by
 intro pins s σ H D I h;exact wpAny_Return_some (zr (he pins s σ H _ I h) fun v s1 ⟨x,H1,I1,r1,q1⟩=>⟨x,σ,H1,I1,r1,q1⟩)
def tIfS (c:TT) (t u:TS):TS:=fun D σ H=>c σ H fun b H1=>if b=true then t D σ H1 else u D σ H1
def Kn {c:Expr} {a b:List Stmt} {tc:TT} (hc:PT X c tc) (ha:yj X a t) (hb:yj X b u):PS X (.If c a b pos) (tIfS tc t u):=by
 intro pins s σ H D I h
 refine wpAny_If (zr (hc pins s σ H _ I h) fun d s1 ⟨H1,I1,q1⟩=>?_)
 cases d with
 |true=>exact ha pins s1 σ H1 D I1 q1
 |false=>exact hb pins s1 σ H1 D I1 q1
def Ko:TS:=fun _ _ _=>False
def Kp:PS X st Ko:=fun _ _ _ _ _ _ h=>h.elim
end
abbrev TG:=V->St->Hp->(St->Hp->Prop)->Prop
abbrev qe:=List V->St->Hp->(St->Hp->Prop)->Prop
def PG (X:Cx) (target:Expr) (t:TG):Prop:=
 ∀(pins:AL) (s:Shared) (σ:St) (H:Hp) (v:V) (u:Value) (Q:St->Hp->Prop),Inv X pins σ H s->RelV v u->t v σ H Q->
  wpAny (model X.prog X.w) X.A (assign target X.env u) (fun _ s'=> ∃σ' H',Inv X pins σ' H' s'/\Q σ' H') X.xe s
def y4 (X:Cx) (ts:List Expr) (t:qe):Prop:=
 ∀(pins:AL) (s:Shared) (σ:St) (H:Hp) (vs:List V) (us:List Value) (Q:St->Hp->Prop),Inv X pins σ H s->Vals vs us->t vs σ H Q->
  wpAny (model X.prog X.w) X.A (assignInOrder ((assignEach ts X.env).map (·.2)) us) (fun _ s'=> ∃σ' H',Inv X pins σ' H' s'/\Q σ' H') X.xe s
section
variable {X:Cx} {pos:Pos}
def Dm (i:Nat):TG:=fun v σ H Q=>Q (σ.set i (some v)) H
def GZ {i:Nat} {x:Str} (hN:X.N.Nodup) (hi:X.N[i]? =some x) (hx:Loc X.env.scope x) (hf:X.fn x=true\/X.env.scope.names.lookup x=some .local:=by first|exact .inl rfl|exact .inr rfl|assumption):PG X (.Name x pos) (Dm i):=by
 intro pins s σ H v u Q I r h;exact wpAny_assign_Name (EJ I hN hi hx r (fun s' I'=>⟨_,H,I',h⟩) hf)
def gNil:qe:=fun vs σ H Q=>vs=[]/\Q σ H
def Ha (t:TG) (u:qe):qe:=fun vs σ H Q=> ∃v r,vs=v::r/\t v σ H fun σ' H'=>u r σ' H' Q
def Kq:y4 X [] gNil:=by
 intro pins s σ H vs us Q I r h;obtain⟨e,h⟩:=h;subst e;cases r;exact assignInOrder_nil ⟨σ,H,I,h⟩
def yS {e:Expr} {es:List Expr} {t:TG} {u:qe} (h1:PG X e t) (h2:y4 X es u)
  (hs:(assignEach (e::es) X.env).map (·.2)=assign e X.env::(assignEach es X.env).map (·.2):=by rfl):y4 X (e::es) (Ha t u):=by
 intro pins s σ H vs us Q I r h;obtain⟨v,vr,e1,h⟩:=h;subst e1;cases r with
 |cons r rr=>
  rw[hs]
  refine assignInOrder_cons (zr (h1 pins s σ H _ _ _ I r h) fun _ s1 ⟨σ1,H1,I1,q1⟩=>?_)
  exact h2 pins s1 σ1 H1 _ _ Q I1 rr q1
def gTup (K:FG) (n:Nat) (t:qe):TG:=fun v σ H Q=> ∃a xs,v=.ref a/\SqT K H a xs/\xs.length=n/\t xs σ H Q
def EK {es:List Expr} {k:Nat} {t:qe} {n:Nat} (hc:X.calm=true) (h:y4 X es t)
  (hn:(assignEach es X.env).length=n:=by rfl) (hst:(assignEach es X.env).findIdx? (·.1)=none:=by rfl):PG X (.Tuple es k pos) (gTup X.K n t):=by
 intro pins s σ H v u Q I r hw;obtain⟨a,xs,e1,hq,hl,hw⟩:=hw;subst e1;cases r;obtain⟨its,rv,ht,hz⟩:=I.tuple hq
 refine assign_Tuple_tuple (I.ok.hd hc) ht (by simp[hn,<-hl,rv.length]) hst fun h' hx=>?_
 have I1:Inv X pins σ H {s with heap:=h'}:=I.kept (t':=s.toks) fun b o e=>hx b o (Ay (Ae e)) e
 exact h pins _ σ H xs _ Q I1 (by simpa using rv) hw
def tAsg (te:TE) (g:TG):TS:=fun D σ H=>te σ H fun x H1=>g x σ H1 D.nx
def Hb {tg e:Expr} {te:TE} {g:TG} (he:PE X e te) (hg:PG X tg g) (hs:swapsWithSole [tg] e pos.line X.env=pure false:=by rfl) (hw:swappedStores [tg] e X.env=pure none:=by rfl)
  (h1:(assignEach [tg] X.env).map (·.2)=[assign tg X.env]:=by rfl):PS X (.Assign [tg] e pos) (tAsg te g):=by
 intro pins s σ H D I h
 refine wpAny_Assign_stores (zr (he pins s σ H _ I h) fun v s1 ⟨x,H1,I1,r1,q1⟩=>?_) hs hw
 rw[h1];exact zr (hg pins s1 σ H1 x v _ I1 r1 q1) fun _ s2 q=>q
def Kr {i:Nat} {x:Str} {e:Expr} {te:TE} {pos':Pos} (hN:X.N.Nodup) (hi:X.N[i]? =some x) (hx:Loc X.env.scope x) (he:PE X e te) (hs:swapsWith e (some (.Name x pos')) pos.line X.env=pure false:=by rfl) (hf:X.fn x=true\/X.env.scope.names.lookup x=some .local:=by first|exact .inl rfl|exact .inr rfl|assumption):
  PS X (.Assign [.Name x pos'] e pos) (tAsg te (Dm i)):=by
 intro pins s σ H D I h
 refine wpAny_Assign_Name (zr (he pins s σ H _ I h) fun v s1 ⟨y,H1,I1,r1,q1⟩=>?_) hs
 exact EJ I1 hN hi hx r1 (fun s2 I2=>⟨_,H1,I2,q1⟩) hf
end
structure It where
 go:Nat->Hp->Prop
 yld:Nat->Hp->V->Hp->Prop
 stop:Nat->Hp->Prop
def FpOk (X:Cx) (pins:AL) (H:Hp) (b:Addr):Prop:=
 H b=none/\b≠X.env.locals/\b∉X.fs/\(b∈X.ex\/X.s₀.heap.objs.size<=b)/\(∀x c,X.env.cells.lookup x=some c->c≠b)/\∀p∈X.pn++pins,p.1≠b
def Inv.fpOk {X:Cx} {pins:AL} {σ:St} {H H':Hp} {s:Shared} {b:Addr} (I:Inv X pins σ H s) (hb:s.heap.objs.size<=b) (hn:H' b=none):FpOk X pins H' b:=by
 refine⟨hn,Nat.ne_of_gt (Au I.lt hb),I.nofs hb,.inr (A1 I.sz hb),fun x c e z=>?_,fun p hp z=>?_⟩
 .obtain⟨v,q⟩:=I.cell x c e
  exact absurd (Au q.lt (by rw[z];exact hb)) (Bm _)
 .exact absurd (Au (Ae (I.pin p hp).1) (by rw[z];exact hb)) (Bm _)
structure Turn (P:Program) (w:World) (K:FG) (tg:Expr) (J:It) (fp:List Addr) (it:Addr) (tn:Nat->Heap->Prop):Prop where
 mem:it∈fp
 obj:∀i h,tn i h->∀b∈fp,∃o,h.get? b=some o/\∀v,o.data≠ .cell v
 keep:∀i h h',tn i h->(∀b∈fp,∀o,h.get? b=some o->h'.get? b=some o)->tn i h'
 item:∀(X:Cx),X.prog=P->X.w=w->X.K=K->X.calm=true->∀(i:Nat) (pins:AL) (s:Shared) (σ:St) (H:Hp) (E:VP),Inv X pins σ H s->(∀b∈fp,FpOk X pins H b)->tn i s.heap->J.go i H->
  wpAny (model P w) X.A (pyNext (.ref it)) (fun r s1=> ∃u,r=some u/\
   wpAny (model P w) X.A (letOwnedTupleGo tg (.ref it) u) (fun _ s2=> ∃x H',Inv X pins σ H' s2/\RelV x u/\J.yld i H x H'/\tn (i+1) s2.heap/\∀b∈fp,H' b=none) E s1) E s
 done:∀(X:Cx),X.prog=P->X.w=w->X.K=K->X.calm=true->∀(i:Nat) (pins:AL) (s:Shared) (σ:St) (H:Hp) (E:VP),Inv X pins σ H s->(∀b∈fp,FpOk X pins H b)->tn i s.heap->J.stop i H->
  wpAny (model P w) X.A (pyNext (.ref it)) (fun r s1=>r=none/\Inv X pins σ H s1) E s
 self:∀(A:Around) (i:Nat) (s:Shared) (Q:VP) (E:VP),tn i s.heap->Q (.ref it) s->wpAny (model P w) A (pyIter (.ref it)) Q E s
abbrev TI:=St->Hp->(It->Hp->Prop)->Prop
def PIE (X:Cx) (pins:AL) (σ:St) (tg:Expr) (R:It->Hp->Prop) (itv:Value) (s2:Shared):Prop:=
 ∃(it:Addr) (fp:List Addr) (tn:Nat->Heap->Prop) (J:It) (H':Hp),itv=.ref it/\Inv X pins σ H' s2/\Turn X.prog X.w X.K tg J fp it tn/\tn 0 s2.heap/\(∀b∈fp,FpOk X pins H' b)/\R J H'
def PI (X:Cx) (tg iter:Expr) (wi:TI):Prop:=
 ∀(pins:AL) (s:Shared) (σ:St) (H:Hp) (R:It->Hp->Prop),Inv X pins σ H s->wi σ H R->
  wpAny (model X.prog X.w) X.A (eval iter X.env) (fun v s1=>wpAny (model X.prog X.w) X.A (pyIter v) (PIE X pins σ tg R) X.xe s1) X.xe s
def Dn {M:Model} {A:Around} {E:VP} {s:Shared} {tg:Expr} {it:Addr} {u:Value} {o:Obj} {n:String} {vs:Array Value} {Q:Unit->Shared->Prop} (ho:s.heap.get? it=some o) (hc:o.cls=.type n) (hd:o.data=.fields vs)
    (hn:["enumerate","zip","dict_itemiterator","dict_reverseitemiterator","odict_iterator","itertools.zip_longest","itertools.pairwise"].contains n=false) (hQ:Q () s):wpAny M A (letOwnedTupleGo tg (.ref it) u) Q E s:=by
  unfold letOwnedTupleGo;cases tg<;>first
    |exact Am hQ
    | (cases u<;>first
        |exact Am hQ
        | (refine Ag (wpAny_load ho ?_)
           rw[hc,hd];show wpAny M A (if (["enumerate","zip","dict_itemiterator","dict_reverseitemiterator","odict_iterator","itertools.zip_longest","itertools.pairwise"].contains n && vs[0]? ==some (rawInt _))=true then _ else _) Q E s
           rw[Ab (by intro h;rw[hn,Co]at h;cases h)]
           exact Am hQ))
def Itl (K:FG) (a:Addr):It:=
 ⟨fun i H=> ∃xs x,SqL K H a xs/\xs[i]? =some x,fun i H x H'=>H'=H/\∀xs,SqL K H a xs->xs[i]? =some x,fun i H=> ∃xs,SqL K H a xs/\xs.length<=i⟩
def Itt (K:FG) (a:Addr):It:=
 ⟨fun i H=> ∃xs x,SqT K H a xs/\xs[i]? =some x,fun i H x H'=>H'=H/\∀xs,SqT K H a xs->xs[i]? =some x,fun i H=> ∃xs,SqT K H a xs/\xs.length<=i⟩
def Itr (lo:Int) (n:Nat):It:=⟨fun i _=>i<n,fun i H x H'=>H'=H/\x=.int (lo+i),fun i _=>n<=i⟩
def Hc {P:Program} {w:World} {K:FG} {tg:Expr} (a it:Addr):Turn P w K tg (Itl K a) [it] it (fun i h=>h.IsListIter it a i) where
 mem:=by simp
 obj:=fun i h st b hb=>by
  have e:b=it:=by simpa using hb
  subst e;obtain⟨o,e,c,d⟩:=st;exact⟨o,e,fun v z=>by rw[d]at z;cases z⟩
 keep:=fun i h h' st k=>st.at fun o e=>k it (by simp) o e
 item:=by
  intro X hP hw hK hc i pins s σ H E I hf st hg;subst hP hw hK;obtain⟨xs,x,hq,hx⟩:=hg;obtain⟨its,rv,p,hz⟩:=I.list hq;obtain⟨u,hu,ru⟩:=rv.get hx;obtain⟨f0,f1,f2,f3,f4,f5⟩:=hf it (by simp)
  refine wpAny_pyNext_list_item st p.isList (x:=u) (by simpa using hu) fun h' st' sb=>?_
  have I1:Inv X pins σ H {s with heap:=h'}:=I.turned (t':=s.toks) (fun b o hb e=>(sb.2 b hb).trans e) f0 f1 f3 f4 f5
  obtain⟨o,e,c,d⟩:=id st';exact⟨u,rfl,Dn (s:={s with heap:=h'}) e c d (by decide) ⟨x,H,I1,ru,⟨rfl,fun ys hy=>by rw[I.list_inj hy hq];exact hx⟩,st',fun b hb=>(hf b hb).1⟩⟩
 done:=by
  intro X hP hw hK hc i pins s σ H E I hf st hg;subst hP hw hK;obtain⟨xs,hq,hx⟩:=hg;obtain⟨its,rv,p,hz⟩:=I.list hq;obtain⟨f0,f1,f2,f3,f4,f5⟩:=hf it (by simp)
  have hl:=rv.length;exact wpAny_pyNext_list_end (I.ok.hd hc) st p.isList (by simp;lia) fun h' eb=>⟨rfl,I.turned (t':=s.toks) (fun b o hb e=>eb b o hb e) f0 f1 f3 f4 f5⟩
 self:=fun _ _ _ _ _ st h=>wpAny_pyIter_listiter st h
def Ks {P:Program} {w:World} {K:FG} {tg:Expr} (a it:Addr):Turn P w K tg (Itt K a) [it] it (fun i h=>h.IsTupleIter it a i) where
 mem:=by simp
 obj:=fun i h st b hb=>by
  have e:b=it:=by simpa using hb
  subst e;obtain⟨o,e,c,d⟩:=st;exact⟨o,e,fun v z=>by rw[d]at z;cases z⟩
 keep:=fun i h h' st k=>st.at fun o e=>k it (by simp) o e
 item:=by
  intro X hP hw hK hc i pins s σ H E I hf st hg;subst hP hw hK;obtain⟨xs,x,hq,hx⟩:=hg;obtain⟨its,rv,p,hz⟩:=I.tuple hq;obtain⟨u,hu,ru⟩:=rv.get hx;obtain⟨f0,f1,f2,f3,f4,f5⟩:=hf it (by simp)
  refine wpAny_pyNext_tuple_item st (show s.heap.IsTuple a its.toArray from p) (x:=u) (by simpa using hu) fun h' st' sb=>?_
  have I1:Inv X pins σ H {s with heap:=h'}:=I.turned (t':=s.toks) (fun b o hb e=>(sb.2 b hb).trans e) f0 f1 f3 f4 f5
  obtain⟨o,e,c,d⟩:=id st';exact⟨u,rfl,Dn (s:={s with heap:=h'}) e c d (by decide) ⟨x,H,I1,ru,⟨rfl,fun ys hy=>by rw[I.tuple_inj hy hq];exact hx⟩,st',fun b hb=>(hf b hb).1⟩⟩
 done:=by
  intro X hP hw hK hc i pins s σ H E I hf st hg;subst hP hw hK;obtain⟨xs,hq,hx⟩:=hg;obtain⟨its,rv,p,hz⟩:=I.tuple hq;obtain⟨f0,f1,f2,f3,f4,f5⟩:=hf it (by simp)
  have hl:=rv.length;exact wpAny_pyNext_tuple_end (I.ok.hd hc) st (show s.heap.IsTuple a its.toArray from p) (by simp;lia) fun h' eb=>⟨rfl,I.turned (t':=s.toks) (fun b o hb e=>eb b o hb e) f0 f1 f3 f4 f5⟩
 self:=fun _ _ _ _ _ st h=>wpAny_pyIter_tupleiter st h
def Kt {P:Program} {w:World} {K:FG} {tg:Expr} (it:Addr) (lo:Int) (n:Nat):Turn P w K tg (Itr lo n) [it] it (fun i h=>IsRangeIter h it (lo+(i:Nat)*1) ((n:Int)-(i:Nat)) 1) where
 mem:=by simp
 obj:=fun i h st b hb=>by
  have e:b=it:=by simpa using hb
  subst e;exact⟨_,st,fun v z=>by
   have z':Data.fields _=Data.cell v:=z;cases z'⟩
 keep:=fun i h h' st k=>k it (by simp) _ st
 item:=by
  intro X hP hw hK hc i pins s σ H E I hf st hg;subst hP hw hK;obtain⟨f0,f1,f2,f3,f4,f5⟩:=hf it (by simp)
  have W:=Walks.range (prog:=X.prog) (w:=X.w) (I.ok.hd hc) it lo 1 n
  refine W.item i s _ _ hg st fun v h' tk hv st' kk=>?_
  obtain⟨t,rfl⟩:=hv;have I1:Inv X pins σ H {s with heap:=h',toks:=tk}:=I.turned (fun b o hb e=>kk b o (by simpa using hb) e) f0 f1 f3 f4 f5
  refine⟨_,rfl,Dn (s:={s with heap:=h',toks:=tk}) (n:="range_iterator") st' rfl rfl (by decide) ⟨.int (lo+i),H,I1,⟨t,?_⟩,⟨rfl,rfl⟩,st',fun b hb=>(hf b hb).1⟩⟩
  rw[Int.mul_one]
 done:=by
  intro X hP hw hK hc i pins s σ H E I hf st hg;subst hP hw hK;obtain⟨f0,f1,f2,f3,f4,f5⟩:=hf it (by simp)
  exact wpAny_pyNext_range_end (I.ok.hd hc) st (by have:n<=i:=hg;lia) fun h' eb=>⟨rfl,I.turned (t':=s.toks) (fun b o hb e=>eb b o hb e) f0 f1 f3 f4 f5⟩
 self:=fun _ _ _ _ _ st h=>wpAny_pyIter_rangeiter st h
section
variable {X:Cx} {tg:Expr}
def Ku (K:FG) (tl:TE):TI:=fun σ H R=>tl σ H fun x H1=> ∃a,x=.ref a/\(∃xs,SqL K H1 a xs)/\R (Itl K a) H1
def Kv {l:Expr} {tl:TE} (hl:PE X l tl):PI X tg l (Ku X.K tl):=by
 intro pins s σ H R I h
 refine zr (hl pins s σ H _ I h) fun v s1 ⟨x,H1,I1,r1,q1⟩=>?_
 obtain⟨a,e,⟨xs,hq⟩,q⟩:=q1;subst e;cases r1;obtain⟨its,rv,p,hz⟩:=I1.list hq
 refine Cp p.isList ?_
 refine⟨s1.heap.objs.size,[s1.heap.objs.size],_,_,H1,rfl,I1.kept (t':=s1.toks) fun b o e=>Aw _ e,Hc a _,⟨_,A6 _ rfl,rfl,rfl⟩,fun b hb=>?_,q⟩
 have e:b=s1.heap.objs.size:=by simpa using hb
 subst e;exact I1.fpOk (Ac _) (I1.hok.fresh (Ac _))
def Hd {pins:AL} {σ:St} {H:Hp} {s:Shared} {R:It->Hp->Prop} {E:VP} {lo hi:Int} {t u v:Tok} {tk:Nat} (I:Inv X pins σ H s) (h1: -(2 ^ 62)<=lo) (h2:lo<2 ^ 62) (h3: -(2 ^ 62)<=hi) (h4:hi<2 ^ 62)
  (q:R (Itr lo (hi-lo).toNat) H):wpAny (model X.prog X.w) X.A (pyIter (.ref s.heap.objs.size)) (PIE X pins σ tg R) E {s with heap:=s.heap.push {cls:= .type "range",data:= .fields #[.int lo t,.int hi u,.int 1 v]},toks:=tk}:=by
 refine wpAny_pyIter_range (IsRange.new ..) (small_one h1 h2 h3 h4) ?_
 have I1:Inv X pins σ H {s with heap:=s.heap.push {cls:= .type "range",data:= .fields #[.int lo t,.int hi u,.int 1 v]},toks:=tk}:=I.kept fun b o e=>Aw _ e
 refine⟨(s.heap.push {cls:= .type "range",data:= .fields #[.int lo t,.int hi u,.int 1 v]}).objs.size,[(s.heap.push {cls:= .type "range",data:= .fields #[.int lo t,.int hi u,.int 1 v]}).objs.size],_,_,H,rfl,
  I1.kept (t':=tk) fun b o e=>Aw _ e,Kt _ lo (hi-lo).toNat,?_,fun b hb=>?_,q⟩
 .have e1:lo+((0:Nat):Int)*1=lo:=by simp
  have e2:(((hi-lo).toNat:Nat):Int)-((0:Nat):Int)=Builtin.Range.rangeSize lo hi 1:=by rw[rangeSize_one];split<;>lia
  show IsRangeIter _ _ (lo+((0:Nat):Int)*1) ((((hi-lo).toNat:Nat):Int)-((0:Nat):Int)) 1;rw[e1,e2];exact A6 _ rfl
 .have e:b=(s.heap.push {cls:= .type "range",data:= .fields #[.int lo t,.int hi u,.int 1 v]}).objs.size:=by simpa using hb
  subst e;exact I1.fpOk (Ac _) (I1.hok.fresh (Ac _))
def Kw (ta:TA):TI:=fun σ H R=>ta σ H fun vs H1=> ∃j:Int,vs=[.int j]/\ -(2 ^ 62)<=j/\j<2 ^ 62/\R (Itr 0 j.toNat) H1
def Ky (ta:TA):TI:=fun σ H R=>ta σ H fun vs H1=> ∃i j:Int,vs=[.int i,.int j]/\(-(2 ^ 62)<=i/\i<2 ^ 62/\ -(2 ^ 62)<=j/\j<2 ^ 62)/\R (Itr i (j-i).toNat) H1
def Kz {a:Expr} {ta:TA} {p pos:Pos} (hg:Gl X "range") (hm:X.mg "range" =none) (ha:PA X [a] ta) (hs:starEach [a] X.env=[(false,eval a X.env)]:=by rfl):PI X tg (.Call (.Name "range" p) [a] [] pos) (Kw ta):=by
 intro pins s σ H R I h
 refine Call_ (Dl I hg hm boot_range (C5 (zr (ha pos pins s σ H _ I h) fun us s1 ⟨vs,H1,I1,r1,q1⟩=>?_) hs rfl))
 obtain⟨j,e,q1,q2,q⟩:=q1;subst e;cases r1 with
 |cons r rr=>
  cases rr;obtain⟨t,rfl⟩:=r;exact call_range_1 (Hd I1 (by lia) (by lia) q1 q2 (by simpa using q))
def K0 {a b:Expr} {ta:TA} {p pos:Pos} (hg:Gl X "range") (hm:X.mg "range" =none) (ha:PA X [a,b] ta) (hs:starEach [a,b] X.env=[(false,eval a X.env),(false,eval b X.env)]:=by rfl) (hs2:starEach [b] X.env=[(false,eval b X.env)]:=by rfl):
  PI X tg (.Call (.Name "range" p) [a,b] [] pos) (Ky ta):=by
 intro pins s σ H R I h
 refine Call_ (Dl I hg hm boot_range (C5 (zr (ha pos pins s σ H _ I h) fun us s1 ⟨vs,H1,I1,r1,q1⟩=>?_) (by rw[hs,hs2]) (by rw[hs2];rfl)))
 obtain⟨i,j,e,⟨q1,q2,q3,q4⟩,q⟩:=q1;subst e;cases r1 with
 |cons r rr=>
  cases rr with
  |cons r' rr=>
   cases rr;obtain⟨t,rfl⟩:=r;obtain⟨t',rfl⟩:=r';exact call_range_2 (Hd I1 q1 q2 q3 q4 q)
def tFor (wi:TI) (g:TG) (tb:TS):TS:=fun D σ H=>wi σ H fun J H1=> ∃W:Nat->Nat->St->Hp->Prop,(∃m,W 0 m σ H1)/\∀i m σ H,W i m σ H->
 (J.stop i H/\D.nx σ H)\/(J.go i H/\∃N:St->Hp->Prop,(∀σ' H',N σ' H'->∃m',m' < m/\W (i+1) m' σ' H')/\∀x H',J.yld i H x H'->g x σ H' fun σ2 H2=>tb {D with nx:=N,ct:=N,bk:=D.nx} σ2 H2)
def Do (fp:List Addr) (h:Heap):AL:=fp.filterMap fun b=>(h.get? b).map fun o=>(b,o)
def DT {fp:List Addr} {h:Heap} {b:Addr} {o:Obj} (hb:b∈fp) (e:h.get? b=some o):(b,o)∈Do fp h:=B8.mpr ⟨b,hb,by rw[e];rfl⟩
def K1 {fp:List Addr} {h:Heap} {p:Addr×Obj} (hp:p∈Do fp h):p.1∈fp/\h.get? p.1=some p.2:=by
 obtain⟨b,hb,e⟩:=B8.mp hp;cases q:h.get? b with
 |none=>rw[q]at e;cases e
 |some o=>
  rw[q]at e;have e':(b,o)=p:=Option.some.inj e;subst e';exact⟨hb,q⟩
def Inv.pinned {pins:AL} {σ:St} {H:Hp} {s:Shared} {fp:List Addr} (I:Inv X pins σ H s) (hf:∀b∈fp,FpOk X pins H b) (ho:∀b∈fp,∃o,s.heap.get? b=some o/\∀v,o.data≠ .cell v):Inv X (pins++Do fp s.heap) σ H s:=
 I.pins_of fun p hp=>(Aq.mp hp).elim (fun z=>I.pin p (A7 _ z)) fun z=>by
  obtain⟨hb,e⟩:=K1 z;obtain⟨f0,f1,f2,_⟩:=hf p.1 hb;obtain⟨o,e',d⟩:=ho p.1 hb;rw[e]at e';cases e';exact⟨e,f0,f1,f2,d⟩
def Inv.unpinned {pins pl:AL} {σ:St} {H:Hp} {s:Shared} (I:Inv X (pins++pl) σ H s):Inv X pins σ H s:=I.pins_of fun p hp=>I.pin p (A7 _ (List.mem_append_left _ hp))
def K2 {iter:Expr} {body:List Stmt} {wi:TI} {g:TG} {tb:TS} {pos:Pos} (hp:PassesOwn (model X.prog X.w) X.A X.env X.xe) (hc:X.calm=true) (hi:PI X tg iter wi) (hg:PG X tg g) (hb:yj X body tb)
  (hs:∀x,foldedSetIterable iter X.env x=pure x:=by intro _;rfl):PS X (.For tg iter body [] pos) (tFor wi g tb):=by
 intro pins s σ H D I h
 refine wpAny_For (zr (hi pins s σ H _ I h) fun v s1 h1=>zr h1 fun itv s2 h2=>?_) hs
 obtain⟨it,fp,tn,J,H2,e,I2,T,st2,f2,W,⟨m0,w0⟩,turn⟩:=h2;subst e;have stat:∀{H':Hp},(∀b∈fp,H' b=none)->∀b∈fp,FpOk X pins H' b:=fun hn b hb=>⟨hn b hb,(f2 b hb).2⟩
 refine codeAny_forLoop_any (fun n s'=> ∃i σ' H',Inv X pins σ' H' s'/\tn i s'.heap/\(∀b∈fp,H' b=none)/\W i n σ' H') ?_ m0 ⟨0,σ,H2,I2,st2,fun b hb=>(f2 b hb).1,w0⟩
 rintro n s3 ⟨i,σ3,H3,I3,st3,fr3,w3⟩
 rcases turn i n σ3 H3 w3 with ⟨stop,qn⟩|⟨go,N,hN,step⟩
 .refine B9 hp (zr (T.done X rfl rfl rfl hc i pins s3 σ3 H3 X.xe I3 (stat fr3) st3 stop) fun r s4 ⟨hr,I4⟩=>?_)
  subst hr;exact wpAny_execs_nil ⟨σ3,H3,I4,qn⟩
 .refine B9 hp (zr (T.item X rfl rfl rfl hc i pins s3 σ3 H3 X.xe I3 (stat fr3) st3 go) fun r s4 ⟨u,hr,h4⟩=>?_)
  subst hr
  refine B9 hp (zr h4 fun _ s5 ⟨x,H5,I5,r5,y5,st5,fr5⟩=>?_)
  have I5':=I5.pinned (stat fr5) (T.obj _ _ st5)
  refine B9 hp (zr (hg _ s5 σ3 H5 x u _ I5' r5 (step x H5 y5)) fun _ s6 ⟨σ6,H6,I6,q6⟩=>?_)
  refine B9 hp (zr (hb _ s6 σ6 H6 _ I6 q6) fun f s7 q7=>?_)
  have again:∀{σ7:St} {H7:Hp},Inv X (pins++Do fp s5.heap) σ7 H7 s7->N σ7 H7->∃m,m<n/\∃i σ' H',Inv X pins σ' H' s7/\tn i s7.heap/\(∀b∈fp,H' b=none)/\W i m σ' H':=fun {σ7 H7} I7 n7=>by
   obtain⟨m',hm,w7⟩:=hN σ7 H7 n7
   refine⟨m',hm,i+1,σ7,H7,I7.unpinned,T.keep _ _ _ st5 fun b hb o e=>(I7.pin (b,o) (A7 _ (A7 _ (DT hb e)))).1,fun b hb=>?_,w7⟩
   obtain⟨o,e,d⟩:=T.obj _ _ st5 b hb;exact (I7.pin (b,o) (A7 _ (A7 _ (DT hb e)))).2.1
  cases f with
  |next=>obtain⟨σ7,H7,I7,n7⟩:=q7;exact again I7 n7
  |cont=>obtain⟨σ7,H7,I7,n7⟩:=q7;exact again I7 n7
  |brk=>obtain⟨σ7,H7,I7,q7⟩:=q7;exact⟨σ7,H7,I7.unpinned,q7⟩
  |ret v=>obtain⟨x7,σ7,H7,I7,r7,q7⟩:=q7;exact⟨x7,σ7,H7,I7.unpinned,r7,q7⟩
end
abbrev R2:=V->V->Hp->VK->Prop
def OpR (X:Cx) (f:Value->Value->Sem Value) (r:R2):Prop:=
 ∀(pins:AL) (s:Shared) (σ:St) (H:Hp) (x y:V) (v u:Value) (Q:VK),Inv X pins σ H s->RelV x v->RelV y u->r x y H Q->
  wpAny (model X.prog X.w) X.A (f v u) (EP X pins σ Q) X.xe s
def UnR (X:Cx) (f:Value->Sem Value) (r:V->Hp->VK->Prop):Prop:=
 ∀(pins:AL) (s:Shared) (σ:St) (H:Hp) (x:V) (v:Value) (Q:VK),Inv X pins σ H s->RelV x v->r x H Q->
  wpAny (model X.prog X.w) X.A (f v) (EP X pins σ Q) X.xe s
def ym (X:Cx) (f:Value) (r:List V->Hp->VK->Prop):Prop:=
 ∀(pins:AL) (s:Shared) (σ:St) (H:Hp) (xs:List V) (us:List Value) (Q:VK),Inv X pins σ H s->Vals xs us->r xs H Q->
  wpAny (model X.prog X.w) X.A (call f us) (EP X pins σ Q) X.xe s
def TruR (X:Cx) (r:V->Hp->(Bool->Hp->Prop)->Prop):Prop:=
 ∀(pins:AL) (s:Shared) (σ:St) (H:Hp) (x:V) (v:Value) (Q:Bool->Hp->Prop),Inv X pins σ H s->RelV x v->r x H Q->
  wpAny (model X.prog X.w) X.A (truthy v) (TP X pins σ Q) X.xe s
def tOp (r:R2) (ta tb:TE):TE:=fun σ H Q=>ta σ H fun x H1=>tb σ H1 fun y H2=>r x y H2 Q
def tUn (r:V->Hp->VK->Prop) (ta:TE):TE:=fun σ H Q=>ta σ H fun x H1=>r x H1 Q
def rI (C:Int->Int->Prop) (g:Int->Int->V):R2:=fun x y H Q=> ∃i j,x=.int i/\y=.int j/\C i j/\Q (g i j) H
def yQ (g:Int->Int->V):R2:=fun x y H Q=> ∃i j,x=.int i/\y=.int j/\Q (g i j) H
def rU (g:Int->V):V->Hp->VK->Prop:=fun x H Q=> ∃i,x=.int i/\Q (g i) H
section
variable {X:Cx} {a b c:Expr} {ta tb tc:TE} {pos:Pos}
def binT (ha:PE X a ta) (hb:PE X b tb) {pins:AL} {s:Shared} {σ:St} {H:Hp} {R:V->V->Hp->Prop} (I:Inv X pins σ H s)
  (h:ta σ H fun x H1=>tb σ H1 fun y H2=>R x y H2) {Q:VP} {f:Value->Value->Sem Value}
  (hf:∀v u s2 x y H2,Inv X pins σ H2 s2->RelV x v->RelV y u->R x y H2->wpAny (model X.prog X.w) X.A (f v u) Q X.xe s2):
  wpAny (model X.prog X.w) X.A (eval a X.env) (fun v s₁=>wpAny (model X.prog X.w) X.A (eval b X.env) (fun u s₂=>wpAny (model X.prog X.w) X.A (f v u) Q X.xe s₂) X.xe s₁) X.xe s:=by
 refine zr (ha pins s σ H _ I h) fun v s1 ⟨x,H1,I1,r1,q1⟩=>?_
 refine zr (hb pins s1 σ H1 _ I1 q1) fun u s2 ⟨y,H2,I2,r2,q2⟩=>?_
 exact hf v u s2 x y H2 I2 r1 r2 q2
def K4 {op:Operator} {r:R2} (ho:OpR X (binaryOp op) r) (ha:PE X a ta) (hb:PE X b tb):PE X (.BinOp a op b pos) (tOp r ta tb):=by
 intro pins s σ H Q I h;exact wpAny_BinOp (binT ha hb I h fun v u s2 x y H2 I2 rx ry q=>ho pins s2 σ H2 x y v u Q I2 rx ry q)
def K5 {op:UnaryOp} {r:V->Hp->VK->Prop} (ho:UnR X (unaryOp op) r) (ha:PE X a ta):PE X (.UnaryOp op a pos) (tUn r ta):=by
 intro pins s σ H Q I h;exact UnaryOp_ (zr (ha pins s σ H _ I h) fun v s1 ⟨x,H1,I1,r1,q1⟩=>ho pins s1 σ H1 x v Q I1 r1 q1)
def opI {f:Value->Value->Sem Value} {C:Int->Int->Prop} {g:Int->Int->Int}
  (rule:∀(i j:Int) (t u:Tok) (s:Shared) (Q:VP) (E:VP),C i j->Q (.int (g i j) s.toks) {s with toks:=s.toks+1}->wpAny (model X.prog X.w) X.A (f (.int i t) (.int j u)) Q E s):
  OpR X f (rI C fun i j=>.int (g i j)):=by
 intro pins s σ H x y v u Q I rx ry h;obtain⟨i,j,rfl,rfl,hc,q⟩:=h;obtain⟨t,rfl⟩:=rx;obtain⟨t',rfl⟩:=ry;exact rule i j t t' s _ _ hc ⟨.int (g i j),H,I.tok _,⟨_,rfl⟩,q⟩
def opI0 {f:Value->Value->Sem Value} {g:Int->Int->Int}
  (rule:∀(i j:Int) (t u:Tok) (s:Shared) (Q:VP) (E:VP),Q (.int (g i j) s.toks) {s with toks:=s.toks+1}->wpAny (model X.prog X.w) X.A (f (.int i t) (.int j u)) Q E s):
  OpR X f (yQ fun i j=>.int (g i j)):=by
 intro pins s σ H x y v u Q I rx ry h;obtain⟨i,j,rfl,rfl,q⟩:=h;obtain⟨t,rfl⟩:=rx;obtain⟨t',rfl⟩:=ry;exact rule i j t t' s _ _ ⟨.int (g i j),H,I.tok _,⟨_,rfl⟩,q⟩
def opB0 {f:Value->Value->Sem Value} {g:Int->Int->Bool}
  (rule:∀(i j:Int) (t u:Tok) (s:Shared) (Q:VP) (E:VP),Q (.bool (g i j)) s->wpAny (model X.prog X.w) X.A (f (.int i t) (.int j u)) Q E s):
  OpR X f (yQ fun i j=>.bl (g i j)):=by
 intro pins s σ H x y v u Q I rx ry h;obtain⟨i,j,rfl,rfl,q⟩:=h;obtain⟨t,rfl⟩:=rx;obtain⟨t',rfl⟩:=ry;exact rule i j t t' s _ _ ⟨.bl (g i j),H,I,rfl,q⟩
def CDiv (i j:Int):Prop:=0<j/\j<1073741824
def CPow (i j:Int):Prop:=0<=j/\j<=1000000/\i.natAbs<2 ^ 64
def CMul (i j:Int):Prop:=(-(2 ^ 64)<i/\i<2 ^ 64)\/(-(2 ^ 64)<j/\j<2 ^ 64)
def CMul.ok {i j:Int} (h:CMul i j):IntMulOk i j:=by
 rcases h with ⟨h1,h2⟩|⟨h1,h2⟩
 .exact .of_left (intBits_le_64 h1 h2)
 .exact .of_right (intBits_le_64 h1 h2)
def op_add:OpR X (binaryOp .Add) (yQ fun i j=>.int (i+j)):=opI0 fun _ _ _ _ _ _ _ q=>add_int q
def He:OpR X (binaryOp .Sub) (yQ fun i j=>.int (i-j)):=opI0 fun _ _ _ _ _ _ _ q=>sub_int q
def op_mul:OpR X (binaryOp .Mult) (rI CMul fun i j=>.int (i*j)):=opI fun _ _ _ _ _ _ _ hc q=>mul_int q hc.ok
def yO:OpR X (binaryOp .FloorDiv) (rI CDiv fun i j=>.int (i / j)):=opI fun i j _ _ _ _ _ hc q=>by
 have h1:(0:Int)<j:=hc.1;have h2:j<1073741824:=hc.2;exact floordiv_int (by lia) (by rw[Int.fdiv_eq_ediv_of_nonneg i (by lia)];exact q) (.inl (PyProof.noPylong_small (by lia)))
def yv:OpR X (binaryOp .Mod) (rI (fun _ j=>0<j) fun i j=>.int (i%j)):=opI fun i j _ _ _ _ _ hc q=>by
 have h1:(0:Int)<j:=hc;exact mod_int' (by lia) (by rw[Int.fmod_eq_emod_of_nonneg i (by lia)];exact q)
def DU:OpR X (binaryOp .Pow) (rI CPow fun i j=>.int (i ^ j.toNat)):=opI fun _ _ _ _ _ _ _ hc q=>pow_int_small hc.1 hc.2.1 hc.2.2 q
def unI {f:Value->Sem Value} {g:Int->Int}
  (rule:∀(i:Int) (t:Tok) (s:Shared) (Q:VP) (E:VP),Q (.int (g i) s.toks) {s with toks:=s.toks+1}->wpAny (model X.prog X.w) X.A (f (.int i t)) Q E s):
  UnR X f (rU fun i=>.int (g i)):=by
 intro pins s σ H x v Q I rx h;obtain⟨i,rfl,q⟩:=h;obtain⟨t,rfl⟩:=rx;exact rule i t s _ _ ⟨.int (g i),H,I.tok _,⟨_,rfl⟩,q⟩
def K6:UnR X (unaryOp .USub) (rU fun i=>.int (-i)):=unI fun _ _ _ _ _ q=>neg_int q
end
section
variable {X:Cx} {a b c:Expr} {ta tb tc:TE} {pos:Pos}
def K7 {pins:AL} {σ:St} {H:Hp} {s:Shared} {Q:VK} {k k':Bool} (I:Inv X pins σ H s) (q:Q (.bl k) H) (e:k=k'):EP X pins σ Q (.bool k') s:=by
 subst e;exact⟨.bl k,H,I,rfl,q⟩
def Hf:OpR X (compareOp .Lt) (yQ fun i j=>.bl (decide (i<j))):=opB0 fun _ _ _ _ _ _ _ q=>lt_int q
def DV:OpR X (compareOp .LtE) (yQ fun i j=>.bl (decide (i<=j))):=opB0 fun _ _ _ _ _ _ _ q=>le_int q
def EL:OpR X (compareOp .Gt) (yQ fun i j=>.bl (decide (j<i))):=opB0 fun _ _ _ _ _ _ _ q=>gt_int q
def EM:OpR X (compareOp .In) (fun x y H Q=> ∃i j,x=.str i/\y=.str j/\Q (.bl (!(Builtin.Str.occurrences j i 0 j.length 1).isEmpty)) H):=by
 intro pins s σ H x y v u Q I rx ry h;obtain⟨i,j,rfl,rfl,q⟩:=h;obtain⟨t,rfl⟩:=rx;obtain⟨t',rfl⟩:=ry;exact in_str (K7 I q rfl)
def OpR.or {f:Value->Value->Sem Value} {r r':R2} (h:OpR X f r) (h':OpR X f r'):OpR X f (fun x y H Q=>r x y H Q\/r' x y H Q):=by
 intro pins s σ H x y v u Q I rx ry q
 rcases q with q|q
 .exact h pins s σ H x y v u Q I rx ry q
 .exact h' pins s σ H x y v u Q I rx ry q
def yc (b:Expr) {op:CmpOp} (h:op≠ .In:=by decide) (h2:op≠ .NotIn:=by decide):behindInMarks op b=false:=by
 have e1:(op==CmpOp.In)=false:=by cases op<;>first|rfl|exact absurd rfl h
 have e2:(op==CmpOp.NotIn)=false:=by cases op<;>first|rfl|exact absurd rfl h2
 cases b<;>simp[behindInMarks,e1,e2]
def K8 {op:CmpOp} {r:R2} (ho:OpR X (compareOp op) r) (ha:PE X a ta) (hb:PE X b tb) (hm:behindInMarks op b=false):PE X (.Compare a [op] [b] pos) (tOp r ta tb):=by
 intro pins s σ H Q I h;exact wpAny_Compare1 (binT ha hb I h fun v u s2 x y H2 I2 rx ry q=>ho pins s2 σ H2 x y v u Q I2 rx ry q) hm
def Hg (t:TE):TT:=fun σ H Q=>t σ H fun x H'=> ∃k,x=.bl k/\Q k H'
def K9 {op:CmpOp} {r:R2} (ho:OpR X (compareOp op) r) (ha:PE X a ta) (hb:PE X b tb) (hm:behindInMarks op b=false):PT X (.Compare a [op] [b] pos) (Hg (tOp r ta tb)):=by
 intro pins s σ H Q I h
 refine wpAny_isTrue_Compare1 (zr (ha pins s σ H _ I h) fun v s1 ⟨x,H1,I1,r1,q1⟩=>zr (hb pins s1 σ H1 _ I1 q1) fun u s2 ⟨y,H2,I2,r2,q2⟩=>
  zr (ho pins s2 σ H2 x y v u _ I2 r1 r2 q2) fun c s3 ⟨z,H3,I3,r3,k,e,q3⟩=>?_) hm
 subst e;cases r3;exact Bf ⟨H3,I3,q3⟩
def Hh (r r':R2) (ta tb tc:TE):TE:=fun σ H Q=>ta σ H fun x H1=>tb σ H1 fun y H2=>r x y H2 fun z H3=> ∃k,z=.bl k/\
 (if k=true then tc σ H3 fun w' H4=>r' y w' H4 Q else Q (.bl false) H3)
def KA {op op':CmpOp} {r r':R2} (ho:OpR X (compareOp op) r) (ho':OpR X (compareOp op') r') (ha:PE X a ta) (hb:PE X b tb) (hc:PE X c tc)
  (hm:lastMarks [op,op'] [b,c]=false:=by with_unfolding_all rfl):PT X (.Compare a [op,op'] [b,c] pos) (Hg (Hh r r' ta tb tc)):=by
 intro pins s σ H Q I h
 refine isTrue_chain (zr (ha pins s σ H _ I h) fun v s1 ⟨x,H1,I1,r1,q1⟩=>test_link (zr (hb pins s1 σ H1 _ I1 q1) fun u s2 ⟨y,H2,I2,r2,q2⟩=>
  zr (ho pins s2 σ H2 x y v u _ I2 r1 r2 q2) fun d s3 ⟨z,H3,I3,r3,k,e,q3⟩=>?_)) hm
 subst e;cases r3
 refine Bf ?_
 cases k with
 |false=>
  obtain⟨k',e',q'⟩:=q3;cases e';exact ite_ff ⟨H3,I3,q'⟩
 |true=>
  refine ite_tt (test_last (zr (hc pins s3 σ H3 _ I3 q3) fun w' s4 ⟨z',H4,I4,r4,q4⟩=>zr (ho' pins s4 σ H4 y z' u w' _ I4 r2 r4 q4) fun d' s5 ⟨z2,H5,I5,r5,k2,e2,q5⟩=>?_))
  subst e2;cases r5;exact Bf ⟨H5,I5,q5⟩
def TruV (K:FG) (x:V) (H:Hp) (k:Bool):Prop:=
 match x with
 |.non=>k=false
 |.bl b=>k=b
 |.int i=>k=(i !=0)
 |.str y=>y.length<=sizeLine/\k=((y.length:Int) !=0)
 |.byt y=>y.size<=sizeLine/\k=((y.size:Int) !=0)
 |.ref p=>(∃xs,SqL K H p xs/\k= !xs.isEmpty)\/(∃xs,SqT K H p xs/\k= !xs.isEmpty)\/∃kvs,H p=some (.dK kvs)/\k= !kvs.isEmpty
 |_=>False
def KB {κ:Type} {kvs:List (κ×V)} {vs:List (κ×Value)} (r:KV kvs vs):(!vs.isEmpty)= !kvs.isEmpty:=by
 cases r<;>rfl
def Hi {xs:List V} {its:List Value} (r:Vals xs its):(!its.toArray.isEmpty)= !xs.isEmpty:=by
 cases r<;>simp
def Dp:(sizeLine:Nat)<2 ^ 63:=by rw[sizeLine_eq];decide
def KC:TruR X (fun x H Q=> ∃k,TruV X.K x H k/\Q k H):=by
 intro pins s σ H x v Q I rx h;obtain⟨k,e,q⟩:=h;have hl:=Dp;have hs:sizeLine=16777216:=sizeLine_eq;cases x with
 |non=>
  cases rx;have e':k=false:=e;subst e';exact truthy_none ⟨H,I,q⟩
 |bl b=>
  cases rx;have e':k=b:=e;subst e';exact Bf ⟨H,I,q⟩
 |int i=>
  obtain⟨t,rfl⟩:=rx;have e':k=(i !=0):=e;subst e';exact PySem.P.truthy_int ⟨H,I,q⟩
 |str y=>
  obtain⟨t,rfl⟩:=rx;obtain⟨hy,e'⟩:y.length<=sizeLine/\k=((y.length:Int) !=0):=e;subst e';exact PySem.P.truthy_str (by lia) ⟨H,I.tok _,q⟩
 |byt y=>
  obtain⟨t,rfl⟩:=rx;obtain⟨hy,e'⟩:y.size<=sizeLine/\k=((y.size:Int) !=0):=e;subst e';exact PySem.W.truthy_bytes (by lia) ⟨H,I.tok _,q⟩
 |ref p=>
  cases rx;have e':(∃xs,SqL X.K H p xs/\k= !xs.isEmpty)\/(∃xs,SqT X.K H p xs/\k= !xs.isEmpty)\/∃kvs,H p=some (.dK kvs)/\k= !kvs.isEmpty:=e
  rcases e' with ⟨xs,hx,e'⟩|⟨xs,hx,e'⟩|⟨kvs,hx,e'⟩
  .subst e'
   obtain⟨its,r,pl,hz⟩:=I.list hx;have hlen:=r.length;exact wpAny_truthy_list pl.isList (by simp only[Af];lia) ⟨H,I.tok _,by rw[Hi r];exact q⟩
  .subst e'
   obtain⟨its,r,pl,hz⟩:=I.tuple hx;have hlen:=r.length;exact truthy_tuple pl (by simp only[Af];lia) ⟨H,I.tok _,by rw[Hi r];exact q⟩
  .subst e'
   obtain⟨hz,hS,vs,r,m⟩:kvs.length<=sizeLine/\(p==sysModules)=false/\∃vs,KV kvs vs/\s.heap.DictOf (DS X.prog X.w) p vs:=I.hok p _ hx;have hlen:kvs.length=vs.length:=Paired.length r;exact wpAny_truthy_dict hS m (by lia) ⟨H,I.tok _,by rw[KB r];exact q⟩
 |_=>exact (show False from e).elim
def KD (ha:PE X a ta) (he:∀whole,isTrue a X.env whole=(do let v <-whole;standAt a.pos;holding [v] (truthy v))):
  PT X a (fun σ H Q=>ta σ H fun x H'=> ∃k,TruV X.K x H' k/\Q k H'):=by
 intro pins s σ H Q I h;exact isTrue_plain (zr (ha pins s σ H _ I h) fun v s1 ⟨x,H1,I1,r1,q1⟩=>KC pins s1 σ H1 x v Q I1 r1 q1) (he _)
def op_add_str:OpR X (binaryOp .Add) (fun x y H Q=> ∃i j,x=.str i/\y=.str j/\i.length+j.length<=sizeLine/\Q (.str (i++j)) H):=by
 intro pins s σ H x y v u Q I rx ry h;obtain⟨i,j,rfl,rfl,hz,q⟩:=h;obtain⟨t,rfl⟩:=rx;obtain⟨t',rfl⟩:=ry;exact add_str (fun t' tk=>⟨.str (i++j),H,I.tok _,⟨_,rfl⟩,q⟩) hz
def qh {x:V} {us:List Value} (r:Vals [x] us):∃u,us=[u]/\RelV x u:=by
 cases r with
 |cons r1 r2=>cases r2;exact⟨_,rfl,r1⟩
def EN {x y:V} {us:List Value} (r:Vals [x,y] us):∃u w',us=[u,w']/\RelV x u/\RelV y w':=by
 cases r with
 |cons r1 r2=>
  cases r2 with
  |cons r3 r4=>cases r4;exact⟨_,_,rfl,r1,r3⟩
def KF (hc:X.calm=true):ym X (.builtin "max") (fun xs H Q=> ∃i j,xs=[.int i,.int j]/\Q (.int (if j > i then j else i)) H):=by
 intro pins s σ H xs us Q I r h;obtain⟨i,j,rfl,q⟩:=h;obtain⟨u,w',rfl,⟨t,rfl⟩,⟨t',rfl⟩⟩:=EN r
 refine max_two_ints (I.ok.hd hc) fun h' tk k=>⟨_,H,I.kept k,?_,q⟩
 by_cases hj:j > i
 .rw[Aa hj,Aa hj];exact⟨_,rfl⟩
 .rw[Ab hj,Ab hj];exact⟨_,rfl⟩
def KG (hc:X.calm=true):ym X (.builtin "min") (fun xs H Q=> ∃i j,xs=[.int i,.int j]/\Q (.int (if j<i then j else i)) H):=by
 intro pins s σ H xs us Q I r h;obtain⟨i,j,rfl,q⟩:=h;obtain⟨u,w',rfl,⟨t,rfl⟩,⟨t',rfl⟩⟩:=EN r
 refine min_two_ints (I.ok.hd hc) fun h' tk k=>⟨_,H,I.kept k,?_,q⟩
 by_cases hj:j<i
 .rw[Aa hj,Aa hj];exact⟨_,rfl⟩
 .rw[Ab hj,Ab hj];exact⟨_,rfl⟩
def KH:ym X (.type "int") (fun xs H Q=>(∃i,xs=[.int i]/\Q (.int i) H)\/∃k,xs=[.bl k]/\Q (.int (if k then 1 else 0)) H):=by
 intro pins s σ H xs us Q I r h
 rcases h with ⟨i,rfl,q⟩|⟨k,rfl,q⟩
 .obtain⟨u,rfl,t,rfl⟩:=qh r
  exact call_int_int ⟨.int i,H,I,⟨_,rfl⟩,q⟩
 .obtain⟨u,rfl,r1⟩:=qh r
  cases r1;exact call_int_bool ⟨.int (if k then 1 else 0),H,I.tok _,⟨_,rfl⟩,q⟩
def KI:ym X (.type "str") (fun xs H Q=> ∃i,xs=[.int i]/\i.natAbs.log2<1920/\Q (.str (toString i)) H):=by
 intro pins s σ H xs us Q I r h;obtain⟨i,rfl,hz,q⟩:=h;obtain⟨u,rfl,t,rfl⟩:=qh r;exact PySem.P.str_of_int hz ⟨.str _,H,I.tok _,⟨_,rfl⟩,q⟩
def LenV (K:FG) (x:V) (H:Hp) (n:Nat):Prop:=
 match x with
 |.str y=>y.length<=sizeLine/\n=y.length
 |.byt y=>y.size<=sizeLine/\n=y.size
 |.ref p=>(∃xs,SqL K H p xs/\n=xs.length)\/∃xs,SqT K H p xs/\n=xs.length
 |_=>False
def KJ:ym X (.builtin "len") (fun xs H Q=> ∃x n,xs=[x]/\LenV X.K x H n/\Q (.int n) H):=by
 intro pins s σ H xs us Q I r h;obtain⟨x,n,rfl,e,q⟩:=h;obtain⟨u,rfl,rx⟩:=qh r;have hl:=Dp;have hs:sizeLine=16777216:=sizeLine_eq;cases x with
 |str y=>
  obtain⟨t,rfl⟩:=rx;obtain⟨hy,e'⟩:y.length<=sizeLine/\n=y.length:=e;subst e';exact len_str (by lia) ⟨.int _,H,I.tok _,⟨_,rfl⟩,q⟩
 |byt y=>
  obtain⟨t,rfl⟩:=rx;obtain⟨hy,e'⟩:y.size<=sizeLine/\n=y.size:=e;subst e';exact PySem.W.len_bytes (by lia) ⟨.int _,H,I.tok _,⟨_,rfl⟩,q⟩
 |ref p=>
  cases rx;have e':(∃xs,SqL X.K H p xs/\n=xs.length)\/∃xs,SqT X.K H p xs/\n=xs.length:=e
  rcases e' with ⟨xs,hx,e'⟩|⟨xs,hx,e'⟩
  .subst e'
   obtain⟨its,r',pl,hz⟩:=I.list hx;have hlen:=r'.length;exact Calls.call_len_list pl.isList (by simp only[Af];lia) ⟨.int xs.length,H,I.tok _,⟨_,by simp only[Af];rw[hlen]⟩,q⟩
  .subst e'
   obtain⟨its,r',pl,hz⟩:=I.tuple hx;have hlen:=r'.length;exact len_tuple pl (by simp only[Af];lia) ⟨.int xs.length,H,I.tok _,⟨_,by simp only[Af];rw[hlen]⟩,q⟩
 |_=>exact (show False from e).elim
end
structure ObjM (h:Heap) (x dx C:Addr) (mA:Str->Option Value):Prop where
 obj:h.get? x=some (PySem.W.instObj C dx)
 ns:h.Ns1 dx mA
 ne:dx≠x
def KL {h:Heap} {dx:Addr} {mA:Str->Option Value} (n:h.Ns1 dx mA):∃od,h.get? dx=some od/\∀name,PySem.W.lookIn name od=some (mA name):=by
 obtain⟨o,es,ep,ho,hd,hk,_,hm⟩:=n
 refine⟨o,ho,fun name=>?_⟩
 have e:=hm name;unfold nsFind findBy at e;rw[<-Array.find?_toList]at e
 unfold PySem.W.lookIn;rw[hd];dsimp only
 split
 .rename_i y q
  rw[q]at e;exact congrArg some e
 .rename_i q
  rw[q]at e;have a:es.toList.any (·.refKey)=false:=by
   rw[List.any_eq_false];intro y hy;obtain⟨z,t,hkey⟩:=hk y (Array.mem_toList_iff.mp hy);simp[DictEntry.refKey,hkey]
  have a': ¬es.toList.any (·.refKey)=true:=by rw[a];exact An
  rw[Ab a'];exact congrArg some e
def ObjM.look {h:Heap} {x dx C:Addr} {mA:Str->Option Value} (I:ObjM h x dx C mA):∃od,PySem.W.InstAt h x (PySem.W.instObj C dx) C (some od)/\∀name,PySem.W.lookIn name od=some (mA name):=
 let ⟨od,ho,hl⟩:=KL I.ns
 ⟨od,⟨I.obj,rfl,rfl,ho⟩,hl⟩
section
variable {P:Program} {w:World} {H H':Hp} {h h':Heap} {a C dx:Addr} {fs fs':List (Str×V)}
def KM (hok:HOk P w H h) (e:H a=some (.ins C dx fs)):∃mA,ObjM h a dx C mA/\(∀f,RelO (fs.lookup f) (mA f))/\PySem.Within mA (fs.map (·.1))/\fs.length<=1000/\H dx=some (.own a):=by
 obtain⟨d,z,ne,ob,mA,n,r,q⟩:=(show ObjOk P w H h a (.ins C dx fs) from hok a _ e)
 exact⟨mA,⟨ob,n,ne⟩,r,q,z,d⟩
end
structure Cls (K:FG) (C:Addr):Prop where
 pg:PySem.W.plainGet K C Str.empty=true
 hd:PySem.W.hasDictIn K C=true
 po:PySem.W.plainOver K C=true
 sa:PySem.W.findIn K (.ref C) "__setattr__" =some (some (.builtin "object.__setattr__"))
def Cls.get {K:FG} {C:Addr} (c:Cls K C) (f:Str):PySem.W.plainGet K C f=true:=c.pg
section
variable {X:Cx} {pins:AL} {σ:St} {H:Hp} {s:Shared} {A:Around} {E:VP} {Q:VP} {c:Value} {b:Bool}
inductive TyOf (K:FG) (H:Hp):V->Value->Prop where
 |non:TyOf K H .non (.type "NoneType")
 |bl (x:Bool):TyOf K H (.bl x) (.type "bool")
 |int (i:Int):TyOf K H (.int i) (.type "int")
 |str (x:Str):TyOf K H (.str x) (.type "str")
 |flt (x:UInt64):TyOf K H (.flt x) (.type "float")
 |lst {a:Addr} {xs:List V} (e:H a=some (.lst xs)):TyOf K H (.ref a) (.type "list")
 |frz {a:Addr} {o:Obj} {xs:List V} (e:H a=some (.frz o (.lst xs))):TyOf K H (.ref a) (.type "list")
 |tup {a:Addr} {xs:List V} (e:H a=some (.tup xs)):TyOf K H (.ref a) (.type "tuple")
 |dK {a:Addr} {kvs:List (yA×V)} (e:H a=some (.dK kvs)):TyOf K H (.ref a) (.type "dict")
 |dT {a:Addr} {kvs:List (MK×V)} (e:H a=some (.dT kvs)):TyOf K H (.ref a) (.type "dict")
 |ins {a C dx:Addr} {fs:List (Str×V)} (e:H a=some (.ins C dx fs)) (cl:Cls K C) (ha:PySem.W.findIn K (.ref C) "__class__" =some (some (.builtin "object.__class__")))
  (hn:PySem.W.specialIn K (.builtin "object.__class__") "__get__" =some (some (.builtin "getset_descriptor.__get__"))) (htk:PySem.W.takesIn K (.builtin "object.__class__")=some true)
  (hm:PySem.W.mroIn K C (.type "object")=some true):TyOf K H (.ref a) (.ref C)
def KN {x:V} {u t:Value} (I:Inv X pins σ H s) (rx:RelV x u) (ty:TyOf X.K H x t) (e:PySem.W.kitOne X.K t c=some b) (h:∀tk,Q (.bool b) {s with toks:=tk}):
  wpAny (model X.prog X.w) A (call (.builtin "isinstance") [u,c]) Q E s:=by
 cases ty with
 |non=>cases (show u=Value.none from rx);exact Bc PySem.W.kitx_none I.kIn True.intro e (fun z=>nomatch z) h
 |bl y=>cases (show u=Value.bool y from rx);exact Bc PySem.W.kitx_bool I.kIn True.intro e (fun z=>nomatch z) h
 |int i=>obtain⟨t,q⟩:=(show ∃t,u=Value.int i t from rx);cases q;exact Bc PySem.W.kitx_int I.kIn True.intro e (fun z=>nomatch z) h
 |str y=>obtain⟨t,q⟩:=(show ∃t,u=Value.str y t from rx);cases q;exact Bc PySem.W.kitx_str I.kIn True.intro e (fun z=>nomatch z) h
 |flt y=>obtain⟨t,q⟩:=(show ∃t,u=Value.float y t from rx);cases q;exact Bc PySem.W.kitx_float I.kIn True.intro e (fun z=>nomatch z) h
 | @lst a xs ea=>
  cases (show u=Value.ref a from rx)
  obtain⟨_,_,n,_,h1⟩:=(show ObjOk X.prog X.w H s.heap a (.lst xs) from I.hok a _ ea)
  exact Bc PySem.W.kitx_list I.kIn ⟨_,h1,rfl⟩ e (fun z=>nomatch z) h
 | @frz a ob xs ea=>
  cases (show u=Value.ref a from rx)
  obtain⟨_,_,_,n,_,h1⟩:=(show ObjOk X.prog X.w H s.heap a (.frz ob (.lst xs)) from I.hok a _ ea)
  exact Bc PySem.W.kitx_list I.kIn ⟨_,h1,rfl⟩ e (fun z=>nomatch z) h
 | @tup a xs ea=>
  cases (show u=Value.ref a from rx)
  obtain⟨_,_,_,p⟩:=(show ObjOk X.prog X.w H s.heap a (.tup xs) from I.hok a _ ea)
  obtain⟨o,h1,h2,_⟩:=p;exact Bc PySem.W.kitx_tuple I.kIn ⟨o,h1,h2⟩ e (fun z=>nomatch z) h
 | @dK a kvs ea=>
  cases (show u=Value.ref a from rx)
  obtain⟨_,_,vs,_,p⟩:=(show ObjOk X.prog X.w H s.heap a (.dK kvs) from I.hok a _ ea)
  obtain⟨o,es,ep,h1,h2,_⟩:=p;exact Bc PySem.W.kitx_dict I.kIn ⟨o,h1,h2.1⟩ e (fun z=>nomatch z) h
 | @dT a kvs ea=>
  cases (show u=Value.ref a from rx)
  obtain⟨_,_,xs,_,o,es,ep,h1,h2,_⟩:=(show ObjOk X.prog X.w H s.heap a (.dT kvs) from I.hok a _ ea)
  exact Bc PySem.W.kitx_dict I.kIn ⟨o,h1,h2.1⟩ e (fun z=>nomatch z) h
 | @ins a C dx fs ea cl ha hn htk hm=>
  cases (show u=Value.ref a from rx)
  obtain⟨mA,O,_⟩:=KM I.hok ea;obtain⟨od,J,_⟩:=O.look;exact Bc (PySem.W.kitx_own (cl.get _) cl.hd ha hn htk hm) I.kIn J e (fun z=>nomatch z) h
end
structure Room (k:Nat) (A:Around):Prop where
 hd:A.handled=none
 dp:A.depth+3*k+5<recursionLimit
 un:A.units+16*k+200<cLine
def Room.mono {j k:Nat} {A:Around} (r:Room k A) (h:j<=k):Room j A:=⟨r.hd,by have:=r.dp;lia,by have:=r.un;lia⟩
theorem Room.deeper {k:Nat} {A:Around} (r:Room (k+1) A) (env:Env):Room k (A.deeper env):=
 ⟨r.hd,by have:=r.dp;show A.depth+1+3*k+5<_;lia,by have:=r.un;show A.units+3+16*k+200<_;lia⟩
theorem Room.depth {k:Nat} {A:Around} (r:Room k A):A.depth<recursionLimit:=by have:=r.dp;lia
theorem Room.units {k:Nat} {A:Around} (r:Room k A):A.units+64<cLine:=by have:=r.un;lia
def tNil:TA:=fun _ H Q=>Q [] H
def KO (ta:TE) (tr:TA):TA:=fun σ H Q=>ta σ H fun x H1=>tr σ H1 fun xs H2=>Q (x::xs) H2
section
variable {X:Cx} {e:Expr} {es:List Expr} {te:TE} {t:TA} {pos:Pos}
def KP:PA X [] tNil:=fun _ _ _ _ H Q I h=>Calls.spliced_nil ⟨[],H,I,.nil,h⟩
def KQ (ha:PE X e te) (hr:PA X es t) (hs:SE X e es:=by rfl):PA X (e::es) (KO te t):=by
 intro pos pins s σ H Q I h;rw[hs];show wpAny _ _ (spliced ((false,eval e X.env)::backTo pos (starEach es X.env))) _ _ s
 refine Calls.spliced_cons (zr (ha pins s σ H _ I h) fun u s1 ⟨x,H1,I1,r1,q1⟩=>?_)
 exact zr (hr pos pins s1 σ H1 _ I1 q1) fun us s2 ⟨xs,H2,I2,r2,q2⟩=>⟨x::xs,H2,I2,.cons r1 r2,q2⟩
def tTup (t:TA):TE:=fun σ H Q=>t σ H fun xs H1=>xs.length<=sizeLine/\∀p,H1 p=none->Q (.ref p) (zl H1 p (.tup xs))
def tLst (t:TA):TE:=fun σ H Q=>t σ H fun xs H1=>xs.length<=sizeLine/\∀p,H1 p=none->Q (.ref p) (zl H1 p (.lst xs))
def KR {x1} (h:PA X es t):PE X (.Tuple es x1 pos) (tTup t):=by
 intro pins s σ H Q I hq
 refine wpAny_Tuple_spliced (zr (h pos pins s σ H _ I hq) fun us s1 ⟨xs,H1,I1,r,z,q⟩=>⟨by rw[<-r.length];exact z,?_⟩)
 have hf:H1 s1.heap.objs.size=none:=I1.hok.fresh (Ac _)
 refine⟨.ref s1.heap.objs.size,zl H1 s1.heap.objs.size (.tup xs),I1.laid (t':=s1.toks) (fun b u e=>Aw _ e) (Ac _) ?_,rfl,q _ hf⟩
 exact⟨z,us,r,⟨_,A6 _ rfl,rfl,_,rfl⟩⟩
def KS (h:PA X es t):PE X (.List es pos) (tLst t):=by
 intro pins s σ H Q I hq
 refine wpAny_List_spliced (zr (h pos pins s σ H _ I hq) fun us s1 ⟨xs,H1,I1,r,z,q⟩=>⟨by rw[<-r.length];exact z,?_⟩)
 have hf:H1 s1.heap.objs.size=none:=I1.hok.fresh (Ac _)
 refine⟨.ref s1.heap.objs.size,zl H1 s1.heap.objs.size (.lst xs),I1.laid (t':=s1.toks) (fun b u e=>Aw _ e) (Ac _) ?_,rfl,q _ hf⟩
 exact⟨z,us,0,r,A6 _ rfl⟩
end
abbrev Sp:=List V->Hp->VK->XK->Prop
abbrev qq:=List Env->Hp->Shared->XK->VP
structure Env0 (P:Program) (w:World) (K:FG) (mg:Str->Option Value) (base:Heap) (A:Around) (outer:List Env) (s:Shared) (H:Hp):Prop where
 frames:A.frames=some outer
 mod:Mod K mg base
 bs:∀b o,base.get? b=some o->s.heap.get? b=some o/\H b=none
 bsz:base.objs.size<=s.heap.objs.size
 funs:s.heap.FunFrames base outer
 frf:∀b∈yg outer,H b=none
 hok:HOk P w H s.heap
 bare:AllBare s.gens
def CE (outer:List Env) (P:Program) (w:World) (H:Hp) (s:Shared) (Q:VK) (u:Value) (s':Shared):Prop:=
 ∃v H',s'.os=s.os/\AllBare s'.gens/\Un (yg outer) [] H H' s.heap s'.heap/\HOk P w H' s'.heap/\RelV v u/\Q v H'
def CR (CX:qq) (outer:List Env) (P:Program) (w:World) (H:Hp) (s:Shared) (Q:VK) (E:XK) (r:Result) (s':Shared):Prop:=
 match r with
 |.ok (.ret u)=>CE outer P w H s Q u s'
 |.ok _=>False
 |.error e=>CX outer H s E e s'
structure FnOk (P:Program) (w:World) (K:FG) (mg:Str->Option Value) (base:Heap) (CX:qq) (k:Nat) (f:Addr) (fd:FuncData) (ps:List Str) (sp:Sp):Prop where
 len:∀vs H Q E,sp vs H Q E->vs.length=ps.length
 run:∀(A:Around) (outer:List Env) (s:Shared) (H:Hp) (args:Args) (us:List Value) (vs:List V) (Q:VK) (E:XK),Room k A->Env0 P w K mg base A outer s H->BindsTo s fd args (ps.zip us)->Vals vs us->sp vs H Q E->
  codeAny (model P w) A (.call (.ref f) args) (CR CX outer P w H s Q E) s
def FnOk.imp {P:Program} {w:World} {K:FG} {mg:Str->Option Value} {base:Heap} {CX:qq} {k:Nat} {f:Addr} {fd:FuncData} {ps:List Str} {sp sp':Sp} (F:FnOk P w K mg base CX k f fd ps sp)
  (h:∀vs H Q E,sp' vs H Q E->sp vs H Q E):FnOk P w K mg base CX k f fd ps sp':=
 ⟨fun vs H Q E q=>F.len vs H Q E (h _ _ _ _ q),fun A outer s H args us vs Q E hr he hb hv hs=>F.run A outer s H args us vs Q E hr he hb hv (h _ _ _ _ hs)⟩
section
variable {X:Cx} {pins:AL} {σ:St} {H:Hp} {s s':Shared}
def Inv.env0 (I:Inv X pins σ H s):Env0 X.prog X.w X.K X.mg X.base X.A X.stack s H:=
 ⟨I.ok.frames,I.ok.mod,I.bs,A1 I.ok.bsz I.sz,I.stack,I.stkFree,I.hok,I.bare⟩
def Inv.after {Q:VK} {u:Value} (I:Inv X pins σ H s) (h:CE X.stack X.prog X.w H s Q u s'):EP X pins σ Q u s':=by
 obtain⟨v,H',os,bare,un,hok,r,q⟩:=h;obtain⟨hh,g,d,t,os'⟩:=s';obtain rfl:os'=s.os:=os;exact⟨v,H',I.call (h':=hh) (g':=g) (d':=d) (t':=t) (ch:=[]) un hok bare (fun b z=>absurd z (by simp)),r,q⟩
end
def Hj (sp:Sp) (dvs:List V) (E:XK) (t:TA):TE:=fun σ H Q=>t σ H fun vs H1=>sp (vs++dvs) H1 Q E
def Binds (K:FG) (fd:FuncData) (ps:List Str) (ds:List Value):Prop:=
 ∀(s:Shared) (us:List Value),K.In s.heap->(us++ds).length=ps.length->BindsTo s fd ⟨us,[]⟩ (ps.zip (us++ds))
def Binds.all {K:FG} {fd:FuncData} {ps:List Str} (h:∀us:List Value,us.length=ps.length->bindArgs fd ⟨us,[]⟩=pure (ps.zip us)):Binds K fd ps []:=fun s us _ hl=>by
 rw[Ca]at hl ⊢;exact .of_eq (h us hl)
def CL (CX:qq) (X:Cx) (E:XK):Prop:=∀(pins:AL) (σ:St) (H:Hp) (s:Shared) (e:Value) (s':Shared),Inv X pins σ H s->CX X.stack H s E e s'->X.xe e s'
section
variable {X:Cx} {CX:qq} {k:Nat} {f C:Addr} {fd:FuncData} {ps:List Str} {sp:Sp} {dvs:List V} {ds:List Value} {E:XK} {x m:Str} {p pos apos:Pos} {e o:Expr} {es:List Expr} {ta:TE} {t:TA}
def KU {pins:AL} {σ:St} {H:Hp} {s:Shared} {Q:VK} {us:List Value} {vs:List V} (F:FnOk X.prog X.w X.K X.mg X.base CX k f fd ps sp) (hr:Room k X.A) (hb:Binds X.K fd ps ds) (hd:Vals dvs ds) (hx:CL CX X E)
  (I:Inv X pins σ H s) (r:Vals vs us) (h:sp (vs++dvs) H Q E):wpAny (model X.prog X.w) X.A (call (.ref f) us) (EP X pins σ Q) X.xe s:=by
 have r2:Vals (vs++dvs) (us++ds):=r.append hd;have hl:(us++ds).length=ps.length:=by rw[<-r2.length];exact F.len _ _ _ _ h
 refine wpAny_call (codeAny_mono (F.run X.A X.stack s H ⟨us,[]⟩ (us++ds) (vs++dvs) Q E hr I.env0 (hb s us I.kIn hl) r2 h) fun r s' hq=>?_)
 cases r with
 |error e=>exact hx pins σ H s e s' I hq
 |ok fl=>
  cases fl with
  |ret u=>exact I.after hq
  |next=>exact False.elim hq
  |brk=>exact False.elim hq
  |cont=>exact False.elim hq
def KW (F:FnOk X.prog X.w X.K X.mg X.base CX k f fd ps sp) (hr:Room k X.A) (hg:Gl X x) (hm:X.mg x=some (.ref f)) (hk:PySem.W.keepIn X.K (.ref f)=true) (hb:Binds X.K fd ps ds) (hd:Vals dvs ds) (hx:CL CX X E)
  (ha:PA X (e::es) t) (hdb:(x==("__debug__" :Str))=false:=by decide) (he:SE X e es:=by rfl) (hpl:BA X pos es:=by rfl):
  PE X (.Call (.Name x p) (e::es) [] pos) (Hj sp dvs E t):=by
 intro pins s σ H Q I h
 refine wpAny_Call_Name_kw (GW I hg hm ?_ hdb)
 refine PySem.W.callWith_K (h₀:=X.base) I.ok.mod.kin hk (zr (ha pos pins s σ H _ I h) fun us s1 ⟨vs,H1,I1,r,q⟩=>⟨I1.kIn,?_⟩) he hpl
 exact KU F hr hb hd hx I1 r q
end
structure FnScope (N P:List Str) (sc:Scope):Prop where
 kind:sc.kind=.function
 co:sc.isCoroutine=false
 gen:sc.isGenerator=false
 nd:N.Nodup
 pre:N.take P.length=P
 par:∀x∈P,sc.names.lookup x=some .local\/sc.names.lookup x=some .cell
 nofree:∀y∈sc.names,y.2≠ .free
theorem Hk {kindOf:Str->Option NameKind} {x:Str}:∀{binds:List (Str×Value)} {m:Str->Option Value},(∀v,(x,v)∉binds)->bindL kindOf binds m x=m x
 | [],_,_=>rfl
 | (n,v)::r,m,h=>by
  unfold bindL;rw[Hk fun w hw=>h w (Ap _ hw)]
  split
  .have:x≠n:=by rintro rfl;exact h v Ak
   simp[this]
  .rfl
theorem Hl {kindOf:Str->Option NameKind} {x:Str}:∀{binds:List (Str×Value)} {m:Str->Option Value},(∀v,(x,v)∉binds)->bindC kindOf binds m x=m x
 | [],_,_=>rfl
 | (n,v)::r,m,h=>by
  unfold bindC;rw[Hl fun w hw=>h w (Ap _ hw)]
  split
  .rfl
  .have:x≠n:=by rintro rfl;exact h v Ak
   simp[this]
theorem Hn {kindOf:Str->Option NameKind} {x:Str} {v:Value}:∀{P:List Str} {vs:List Value} {i:Nat} {m:Str->Option Value},P.Nodup->P[i]? =some x->vs[i]? =some v->kindOf x=some .local->
  bindL kindOf (P.zip vs) m x=some v
 | [],_,_,_,_,h,_,_=>by simp at h
 |_::_,[],_,_,_,_,h,_=>by simp at h
 |p::P,w::vs,0,m,nd,h1,h2,hk=>by
  simp at h1 h2;subst h1;subst h2;show bindL kindOf ((p,w)::P.zip vs) m p=_;unfold bindL;rw[Hk fun v hv=>(Be.mp nd).1 (List.of_mem_zip hv).1,Aa hk]
  simp
 |p::P,w::vs,i+1,m,nd,h1,h2,hk=>by
  show bindL kindOf ((p,w)::P.zip vs) m x=_;unfold bindL;exact Hn (i:=i) (Be.mp nd).2 (by simpa using h1) (by simpa using h2) hk
theorem Ho {kindOf:Str->Option NameKind} {x:Str} {v:Value}:∀{P:List Str} {vs:List Value} {i:Nat} {m:Str->Option Value},P.Nodup->P[i]? =some x->vs[i]? =some v->kindOf x≠some .local->
  bindC kindOf (P.zip vs) m x=some v
 | [],_,_,_,_,h,_,_=>by simp at h
 |_::_,[],_,_,_,_,h,_=>by simp at h
 |p::P,w::vs,0,m,nd,h1,h2,hk=>by
  simp at h1 h2;subst h1;subst h2;show bindC kindOf ((p,w)::P.zip vs) m p=_;unfold bindC;rw[Hl fun v hv=>(Be.mp nd).1 (List.of_mem_zip hv).1,Ab hk]
  simp
 |p::P,w::vs,i+1,m,nd,h1,h2,hk=>by
  show bindC kindOf ((p,w)::P.zip vs) m x=_;unfold bindC;exact Ho (i:=i) (Be.mp nd).2 (by simpa using h1) (by simpa using h2) hk
def start (N:List Str) (vs:List V):St:=vs.map some++List.replicate (N.length-vs.length) none
def cxOf (CX:qq) (P:Program) (w:World) (K:FG) (mg:Str->Option Value) (base:Heap) (N:List Str) (qual:Str) (scope:Scope) (f:Addr) (cd:Value) (A:Around) (outer:List Env) (s:Shared) (H:Hp) (E:XK):Cx where
 prog:=P
 w:=w
 K:=K
 mg:=mg
 base:=base
 A:=A.deeper (envOfC qual scope s.heap.objs.size f cd)
 N:=N
 s₀:=s
 H₀:=H
 env:=envOfC qual scope s.heap.objs.size f cd
 outer:=outer
 stack:=envOfC qual scope s.heap.objs.size f cd::outer
 ex:=[]
 calm:=true
 fn:=fun _=>true
 pn:=[]
 xe:=fun e s'=>wpAny (model P w) (A.deeper (envOfC qual scope s.heap.objs.size f cd)) (leaving (envOfC qual scope s.heap.objs.size f cd) e) (fun _ s''=>CX outer H s E e s'') (fun e' s''=>CX outer H s E e' s'') s'
def Hq {sc:Scope} {n:Nat} {x:Str} (h:sc.names.lookup x=some .cell):∃c,(cellsFrom n sc.names []).lookup x=some c:=by
 have q:=PySem.W.cellsFrom_some sc.names n [] (.inl h);exact Option.isSome_iff_exists.mp q
def KY {CX:qq} {P:Program} {w:World} {K:FG} {mg:Str->Option Value} {base:Heap} {N ps:List Str} {qual:Str} {scope:Scope} {f:Addr} {cd:Value} {A:Around} {outer:List Env} {s s1:Shared} {H:Hp} {E:XK} {us:List Value} {vs:List V}
  (S:FnScope N ps scope) (hd:A.handled=none) (e0:Env0 P w K mg base A outer s H) (hl:vs.length=ps.length) (r:Vals vs us)
  (x:InCallC s s.heap.objs.size (bindL (envOfC qual scope s.heap.objs.size f cd).kindOf (ps.zip us) fun _=>none) (cellsFrom (s.heap.objs.size+1) scope.names []) (bindC (envOfC qual scope s.heap.objs.size f cd).kindOf (ps.zip us) fun _=>none) s1):
  Inv (cxOf CX P w K mg base N qual scope f cd A outer s H E) [] (start N vs) H s1:=by
 have hpl:ps.length<=N.length:=by have:=congrArg List.length S.pre;rw[B3]at this;lia
 obtain⟨h1,tk,rfl,hk⟩:=x.done;have noA:∀b:Addr,b∉(cxOf CX P w K mg base N qual scope f cd A outer s H E).ex:=fun b z=>absurd (show b∈([]:List Addr) from z) (by simp)
 refine⟨⟨e0.mod,S.kind,rfl,rfl,Ac _,fun y z c h1 h2=>?_,fun y hy=>?_,fun y c _ h=>?_,fun _=>hd,Around.frames_deeper e0.frames,.inr ⟨rfl,rfl⟩,fun b z=>absurd z (noA b),e0.bs,e0.bsz,fun b _ _=>noA b,fun b z=>absurd z (noA b),e0.funs,e0.frf⟩,
  rfl,e0.bare,Un.kept hk,⟨_,x.toInCall.ns,fun i y v h1 h2 h3=>?_⟩,fun y c h=>⟨_,x.cell y c h⟩,e0.hok.fresh (Ac _),fun y c h=>?_,fun p hp=>absurd (show p∈([]:AL) from hp) (by simp),e0.hok.kept hk,?_⟩
 .exact name_of_addr x.apart (Bn h1) (Bn h2)
 .have hy:scope.names.lookup y=some .cell\/scope.names.lookup y=some .free:=hy
  rcases hy with hy|hy
  .exact Hq hy
  .exact absurd rfl (S.nofree _ (Bn hy))
 .exact Nat.le_of_lt (x.above y c (Bn h))
 .have hi:i<vs.length:=by
   unfold start at h2
   by_cases hi:i<vs.length
   .exact hi
   .rw[Bg (by simpa using hi)]at h2
    rw[C6]at h2
    split at h2<;>cases h2
  have ha:vs[i]? =some v:=by
   unfold start at h2;rw[Az (by simpa using hi),A8]at h2
   cases e:vs[i]? with
   |none=>rw[e]at h2;cases h2
   |some a=>rw[e]at h2;cases h2;rfl
  obtain⟨u,hu,rv⟩:=r.get ha;have hp:ps[i]? =some y:=by
   rw[<-S.pre,List.getElem?_take_of_lt (by lia)];exact h1
  have ndP:ps.Nodup:=by rw[<-S.pre];exact S.nd.sublist (List.take_sublist _ _)
  refine⟨u,rv,?_⟩
  rcases S.par y (Aj hp) with k|k
  .exact .inl ⟨k,Hn ndP hp hu k⟩
  .obtain⟨c,e⟩:=Hq (n:=s.heap.objs.size+1) k
   refine .inr ⟨.inl k,c,e,?_⟩
   have q:=x.cell y c e;rw[Ho ndP hp hu (by show scope.names.lookup y≠_;rw[k];decide)]at q
   exact q
 .exact e0.hok.fresh (Nat.le_of_lt (x.above y c (Bn h)))
 .unfold start
  show _=N.length;rw[Ar,Ad,Bw];lia
def KZ {CX:qq} {P:Program} {w:World} {K:FG} {mg:Str->Option Value} {base:Heap} {k:Nat} {f:Addr} {name qual:Str} {params:Arguments} {body:List Stmt} {scope:Scope} {dV kV doc pm cdv ct oc:Value} {an od:Option Addr}
  {osl:Array (Option Value)} {N ps:List Str} {sp:Sp} (lk:K.lookup f=some ⟨oc,od,.func (PySem.W.fnOf name qual params body scope dV kV doc pm an cdv ct),osl⟩) (hcd:PySem.W.codeIn K cdv qual=true) (S:FnScope N ps scope)
  (len:∀vs H Q E,sp vs H Q E->vs.length=ps.length)
  (hbody:∀(A:Around) (outer:List Env) (s:Shared) (H:Hp) (vs:List V) (Q:VK) (E:XK),Room k (A.deeper (envOfC qual scope s.heap.objs.size f cdv))->sp vs H Q E->
   ∃t,yj (cxOf CX P w K mg base N qual scope f cdv A outer s H E) body t/\t {nx:=fun _ H'=>Q .non H',rt:=Q} (start N vs) H):
  FnOk P w K mg base CX (k+1) f (PySem.W.fnOf name qual params body scope dV kV doc pm an cdv ct) ps sp:=by
 refine⟨len,fun A outer s H args us vs Q E hr e0 hb r hsp=>?_⟩
 have hl:=len _ _ _ _ hsp;have KX:K.In s.heap:=e0.mod.kin.keeps fun b o e=>(e0.bs b o e).1
 have lim:s.heap.NoLimit:=e0.mod.nolimit.keeps fun b o e=>(e0.bs b o e).1
 have hkind:∀y∈ps.zip us,scope.names.lookup y.1=some .local\/(scope.names.lookup y.1=some .cell/\((cellsFrom (s.heap.objs.size+1) scope.names []).lookup y.1).isSome=true):=fun ⟨n,v⟩ hy=>by
  rcases S.par n (List.of_mem_zip hy).1 with q|q
  .exact .inl q
  .exact .inr ⟨q,PySem.W.cellsFrom_some _ _ _ (.inl q)⟩
 refine codeAny_call_function hr.depth (KX _ _ lk) rfl S.co S.gen rfl (PySem.W.codeRec_of KX hcd) (hb _ _ _ _ ?_)
 refine wpAny_newFunctionEnv_cells S.kind hkind fun env he s1 x=>?_
 subst he
 refine⟨lim.keeps x.toInCall.keep,codeAny_func ?_⟩
 obtain⟨t,ht,hq⟩:=hbody A outer s H vs Q E (hr.deeper _) hsp;have I:Inv (cxOf CX P w K mg base N qual scope f cdv A outer s H E) [] (start N vs) H s1:=KY S hr.hd e0 hl r x
 refine A5 (ht [] s1 (start N vs) H _ I hq) (fun fl s' hs=>?_) fun e s' hs=>hs
 have fin:∀{σ':St} {H':Hp} {v:V} {u:Value},Inv (cxOf CX P w K mg base N qual scope f cdv A outer s H E) [] σ' H' s'->RelV v u->Q v H'->CE outer P w H s Q u s':=
  fun {σ' H' v u} J rv q=>⟨v,H',J.os,J.bare,J.base,J.hok,rv,q⟩
 cases fl with
 |ret u=>
  obtain⟨v,σ',H',J,rv,q⟩:=hs;exact fin J rv q
 |next=>
  obtain⟨σ',H',J,q⟩:=hs;exact fin (v:=V.non) (u:=Value.none) J rfl q
 |brk=>
  obtain⟨_,_,_,q⟩:=hs;exact False.elim q
 |cont=>
  obtain⟨_,_,_,q⟩:=hs;exact False.elim q
section
variable {X:Cx} {x:Str} {p pos:Pos} {e:Expr} {es:List Expr} {t:TA} {id T:String} {r:List V->Hp->VK->Prop}
def tCB (r:List V->Hp->VK->Prop) (t:TA):TE:=fun σ H Q=>t σ H fun vs H1=>r vs H1 Q
def La (hc:ym X (.builtin id) r) (hg:Gl X x) (hm:X.mg x=none) (hv:bootBuiltins x=some (.builtin id)) (ha:PA X (e::es) t) (hn:x≠"__name__" :=by decide) (hdb:(x==("__debug__" :Str))=false:=by decide)
  (he:SE X e es:=by rfl) (hpl:BA X pos es:=by rfl):PE X (.Call (.Name x p) (e::es) [] pos) (tCB r t):=by
 intro pins s σ H Q I h
 refine wpAny_Call_Name_kw (Dl I hg hm hv ?_ hn hdb)
 exact PyProof.Rows.callWith_builtin1 (zr (ha pos pins s σ H _ I h) fun us s1 ⟨vs,H1,I1,r1,q1⟩=>hc pins s1 σ H1 vs us Q I1 r1 q1) he hpl
def Lb (hc:ym X (.type T) r) (hg:Gl X x) (hm:X.mg x=none) (hv:bootBuiltins x=some (.type T)) (ha:PA X (e::es) t) (hn:x≠"__name__" :=by decide) (hdb:(x==("__debug__" :Str))=false:=by decide)
  (he:SE X e es:=by rfl) (hpl:BA X pos es:=by rfl):PE X (.Call (.Name x p) (e::es) [] pos) (tCB r t):=by
 intro pins s σ H Q I h
 refine wpAny_Call_Name_kw (Dl I hg hm hv ?_ hn hdb)
 exact C5 (zr (ha pos pins s σ H _ I h) fun us s1 ⟨vs,H1,I1,r1,q1⟩=>hc pins s1 σ H1 vs us Q I1 r1 q1) he hpl
end
end L2
namespace HT
open PySem PyProof.Rows
section
variable {prog:Program} {w:World} {A:Around} {E:VP} {s:Shared}
def cat_tup {t b:Addr} {vs ws:List Value} {Q:VP} (ht:IsTup s.heap t vs.toArray) (hb:IsTup s.heap b ws.toArray) (hv:vs≠[])
  (h1:ws=[]->Q (.ref t) s) (h2:ws≠[]->Q (.ref s.heap.objs.size) {s with heap:=s.heap.push {cls:= .type "tuple",data:= .seq (vs++ws).toArray}})
  (hsz:vs.length+ws.length<=sizeLine):wpAny (model prog w) A (binaryOp .Add (.ref t) (.ref b)) Q E s:=by
 obtain⟨⟨cls,dd,data,sl⟩,ho,hc,n,hd⟩:=id ht;obtain⟨⟨cls2,dd2,data2,sl2⟩,ho2,hc2,n2,hd2⟩:=id hb;simp only at hc hd hc2 hd2;subst hc hd hc2 hd2;have e:vs.toArray++ws.toArray=(vs++ws).toArray:=by simp
 by_cases hw:ws=[]
 .exact concat_meets ⟨_,ho,rfl⟩ ⟨_,ho2,rfl⟩ noFill_tuple_add seq_tuple_add PySem.F.slot_tuple_add PySem.F.entry_tuple_add (PySem.F.args_tuple_add_2 _ _)
   (tuple_addW1 t b vs.toArray ws.toArray n n2 dd dd2 sl sl2 (by simpa using hv) (by simp[hw])) ⟨ho,ho2,h1 hw⟩
 .refine concat_meets ⟨_,ho,rfl⟩ ⟨_,ho2,rfl⟩ noFill_tuple_add seq_tuple_add PySem.F.slot_tuple_add PySem.F.entry_tuple_add (PySem.F.args_tuple_add_2 _ _)
   (tuple_addW2 t b vs.toArray ws.toArray n n2 dd dd2 sl sl2 (by simpa using hv) (by simpa using hw) (by rw[Af,Af];exact hsz)) ⟨ho,ho2,?_⟩
  rw[e];exact h2 hw
def sIx (n d:Nat):Option Int->Nat
 |none=>d
 |some v=>if v<0 then (v+(n:Int)).toNat else min v.toNat n
def Lc (n d:Nat) (hd:d<=n) (o:Option Int):sIx n d o<=n:=by
 cases o with
 |none=>exact hd
 |some v=>
  show (if v<0 then (v+(n:Int)).toNat else min v.toNat n)<=n
  by_cases hv:v<0
  .rw[Aa hv];lia
  .rw[Ab hv];exact Nat.min_le_right _ _
def Hr (v:Int) (n d:Nat):(if v<0 then max (v+(n:Int)) 0 else min v (n:Int))=((sIx n d (some v):Nat):Int):=by
 show (if v<0 then max (v+(n:Int)) 0 else min v (n:Int))=(((if v<0 then (v+(n:Int)).toNat else min v.toNat n):Nat):Int)
 by_cases hv:v<0
 .simp only[Aa hv];lia
 .simp only[Ab hv];lia
def Ld (lo hi:Option Int) (n:Nat):Builtin.Slice.sliceAdjust lo hi 1 (n:Int)=(((sIx n 0 lo:Nat):Int),((sIx n n hi:Nat):Int)):=by
 have h1: ¬((1:Int)<0):=by lia
 unfold Builtin.Slice.sliceAdjust;simp only[h1,Bs]
 refine Prod.ext ?_ ?_
 .cases lo with
  |none=>rfl
  |some v=>exact Hr v n 0
 .cases hi with
  |none=>rfl
  |some v=>exact Hr v n n
def Lf (i j:Nat):Builtin.Slice.slicePlaces (i:Int) (j:Int) 1=j-i:=by
 unfold Builtin.Slice.slicePlaces;have h1:(1:Int) > 0:=by lia
 simp only[h1,Bh,Int.ediv_one]
 split<;>lia
def Hs {v:Value} {o:Option Int} {Q:Option Int->Shared->Prop} (p:IsPart v o) (h:Q o s):wpAny (model prog w) A (Builtin.Slice.slicePartIndex v) Q E s:=by
 cases p with
 |none=>exact slicePart_none h
 |int i t=>exact slicePart_int h
def Lg {sl:Addr} {vl vu:Value} {lo hi:Option Int} {n:Nat} {Q:Int×Int×Nat->Shared->Prop} (hs:s.heap.IsSliceOf sl vl vu .none) (pl:IsPart vl lo) (pu:IsPart vu hi)
  (h:Q (((sIx n 0 lo:Nat):Int),1,sIx n n hi-sIx n 0 lo) s):wpAny (model prog w) A (Builtin.Slice.sliceApplied (.ref sl) (pure (n:Int))) Q E s:=by
 obtain⟨os,hos,hcs,hds⟩:=id hs;unfold Builtin.Slice.sliceApplied Builtin.Slice.sliceFields
 refine Ag (Ag (wpAny_field hos hds (x:=vl) rfl (Ag (wpAny_field hos hds (x:=vu) rfl (Ag (wpAny_field hos hds (x:= .none) rfl (Am ?_)))))))
 refine Ag (slicePart_none ?_)
 show wpAny _ _ (if ((1:Int)==0)=true then _ else _) _ _ s
 rw[Ab (by decide)]
 refine Ag (Hs pl (Ag (Hs pu (Ag (Am ?_)))))
 show wpAny _ _ (match Builtin.Slice.sliceAdjust lo hi 1 (n:Int) with|(lo,hi)=>pure (lo,(1:Int),Builtin.Slice.slicePlaces lo hi 1)) _ _ s
 rw[Ld lo hi n];show wpAny _ _ (pure (((sIx n 0 lo:Nat):Int),(1:Int),Builtin.Slice.slicePlaces ((sIx n 0 lo:Nat):Int) ((sIx n n hi:Nat):Int) 1)) _ _ s;rw[Lf];exact Am h
def Lh (xs:Array Value) (i k:Nat):((List.range k).filterMap fun (m:Nat)=>xs[((i:Int)+(m:Int)*1).toNat]?).toArray=((xs.toList.drop i).take k).toArray:=by
 have e:(fun (m:Nat)=>xs[((i:Int)+(m:Int)*1).toNat]?)=fun m=>xs[i+m]? :=by
  funext m
  have:((i:Int)+(m:Int)*1).toNat=i+m:=by lia
  rw[this]
 rw[e];have:=pick_run xs i k;rw[List.filterMap_map]at this;have e2:((fun x=>xs[x]?)∘fun x=>i+x)=fun m=>xs[i+m]? :=rfl
 rw[e2]at this;rw[this]
def getItem_tuple_cut {t sl:Addr} {items:Array Value} {vl vu:Value} {lo hi:Option Int} {Q:VP} (ht:IsTup s.heap t items) (hs:s.heap.IsSliceOf sl vl vu .none) (pl:IsPart vl lo) (pu:IsPart vu hi)
  (hw: ¬(sIx items.size 0 lo=0/\sIx items.size items.size hi=items.size))
  (h:Q (.ref s.heap.objs.size) {s with heap:=s.heap.push {cls:= .type "tuple",data:= .seq ((items.toList.drop (sIx items.size 0 lo)).take (sIx items.size items.size hi-sIx items.size 0 lo)).toArray}})
  (hsz:items.size<=sizeLine):wpAny (model prog w) A (getItem (.ref t) (.ref sl)) Q E s:=by
 have htake:sizeOk (.seq ((items.toList.drop (sIx items.size 0 lo)).take (sIx items.size items.size hi-sIx items.size 0 lo)).toArray):=by
  show ((items.toList.drop (sIx items.size 0 lo)).take (sIx items.size items.size hi-sIx items.size 0 lo)).toArray.size<=sizeLine;rw[Af,B3,List.length_drop,Array.length_toList];lia
 have hj:sIx items.size items.size hi<=items.size:=Lc _ _ (Ac _) hi;obtain⟨os,hos,hcs,hds⟩:=id hs;have hTs:s.TypeIs (.ref sl) "slice" :=⟨os,hos,hcs⟩;unfold getItem
 try with_reducible refine wpAny_holding ?_
 first|refine Ag (Am ?_)|skip
 refine Ag (wpAny_sequenceKey ht.typeIs (by decide) ?_)
 refine Ag (wpAny_callSpecial?_slot (name:=Str.ofString "__getitem__") ht.typeIs C7
  (wpAny_call_entry C7 ht.typeIs entry_tuple_getitem ?_ (args_tuple_getitem _ _)))
 show wpAny _ _ (Builtin.Tuple.tupleItemsOf (.ref t) >>=_) _ _ s
 refine Ag (tupleItemsOf_ ht ?_)
 refine Ag (wpAny_typeOf hTs ?_)
 rw[Aa (by decide)]
 refine Ag (Lg hs pl pu ?_)
 have hno: ¬((((sIx items.size 0 lo:Nat):Int)==0 && (1:Int)==1 && (sIx items.size items.size hi-sIx items.size 0 lo)==items.size)=true):=by
  intro q;rw[Bo,Bo]at q;have q1:((sIx items.size 0 lo:Nat):Int)=0:=eq_of_beq q.1.1;have q2:sIx items.size items.size hi-sIx items.size 0 lo=items.size:=eq_of_beq q.2;exact hw ⟨by lia,by lia⟩
 show wpAny _ _ (if (((sIx items.size 0 lo:Nat):Int)==0 && (1:Int)==1 && (sIx items.size items.size hi-sIx items.size 0 lo)==items.size)=true then _ else _) _ _ s
 rw[Ab hno,Lh]
 first
  |exact Ag (m:=Builtin.Tuple.tupleExact _) (Cb (Am ⟨_,rfl,Am h⟩) htake)
  |exact Ag (m:=Builtin.Tuple.tupleExact _) (Cb (Ag (Am (Am ⟨_,rfl,Am h⟩))) htake)
  |exact Ag (Ag (m:=Builtin.Tuple.tupleExact _) (Cb (Am (Am ⟨_,rfl,Am h⟩)) htake))
  |exact Ag (Ag (m:=Builtin.Tuple.tupleExact _) (Cb (Am ⟨_,rfl,Am h⟩) htake))
end
end HT
namespace L2
open PySem PySem.Spec PyProof.Rows
abbrev TO:=St->Hp->(Option Int->Hp->Prop)->Prop
def PO (X:Cx) (e:Option Expr) (t:TO):Prop:=
 ∀(pins:AL) (s:Shared) (σ:St) (H:Hp) (Q:Option Int->Hp->Prop),Inv X pins σ H s->t σ H Q->
  wpAny (model X.prog X.w) X.A (evalPart e X.env) (fun u s'=> ∃o H',Inv X pins σ H' s'/\IsPart u o/\Q o H') X.xe s
def Li:TO:=fun _ H Q=>Q none H
def Lj (t:TE):TO:=fun σ H Q=>t σ H fun x H1=> ∃i,x=.int i/\Q (some i) H1
section
variable {X:Cx} {e:Expr} {te:TE} {lo hi:Option Expr} {tl th:TO} {pos p2:Pos}
def Lk:PO X none Li:=by
 intro pins s σ H Q I h;rw[evalPart_none];exact Am ⟨none,H,I,.none,h⟩
def Ll (h:PE X e te):PO X (some e) (Lj te):=by
 intro pins s σ H Q I hw;rw[evalPart_some]
 refine zr (h pins s σ H _ I hw) fun u s1 ⟨x,H1,I1,r1,q1⟩=>?_
 obtain⟨i,rfl,q⟩:=q1;obtain⟨t,rfl⟩:=r1;exact⟨some i,H1,I1,.int i t,q⟩
def SlR (X:Cx) (r:V->Option Int->Option Int->Hp->VK->Prop):Prop:=
 ∀(pins:AL) (s:Shared) (σ:St) (H:Hp) (x:V) (v vl vu:Value) (lo hi:Option Int) (sl:Addr) (Q:VK),Inv X pins σ H s->RelV x v->s.heap.IsSliceOf sl vl vu .none->IsPart vl lo->IsPart vu hi->r x lo hi H Q->
  ∃T id,typeLookup (.type T) "__getitem__" =pure (some (.builtin id))/\s.TypeIs v T/\wpAny (model X.prog X.w) X.A (getItem v (.ref sl)) (EP X pins σ Q) X.xe s
def SlR.or {r r':V->Option Int->Option Int->Hp->VK->Prop} (h:SlR X r) (h':SlR X r'):SlR X (fun x lo hi H Q=>r x lo hi H Q\/r' x lo hi H Q):=by
 intro pins s σ H x v vl vu lo hi sl Q I rx hs pl pu q
 rcases q with q|q
 .exact h pins s σ H x v vl vu lo hi sl Q I rx hs pl pu q
 .exact h' pins s σ H x v vl vu lo hi sl Q I rx hs pl pu q
def tSl (r:V->Option Int->Option Int->Hp->VK->Prop) (te:TE) (tl th:TO):TE:=fun σ H Q=>te σ H fun x H1=>tl σ H1 fun l H2=>th σ H2 fun u H3=>r x l u H3 Q
theorem Lm {r:V->Option Int->Option Int->Hp->VK->Prop} (hr:SlR X r) (he:PE X e te) (hl:PO X lo tl) (hu:PO X hi th):PE X (.Subscript e (.Slice lo hi none p2) pos) (tSl r te tl th):=by
 intro pins s σ H Q I h
 refine Subscript_ (zr (he pins s σ H _ I h) fun v s1 ⟨x,H1,I1,r1,q1⟩=>?_)
 refine wpAny_Slice (zr (hl pins s1 σ H1 _ I1 q1) fun vl s2 ⟨l,H2,I2,pl,q2⟩=>zr (hu pins s2 σ H2 _ I2 q2) fun vu s3 ⟨u,H3,I3,pu,q3⟩=>?_)
 rw[evalPart_none]
 refine Am ?_
 have I4:Inv X pins σ H3 {s3 with heap:=s3.heap.push {cls:= .type "slice",data:= .fields #[vl,vu,.none]}}:=I3.kept (t':=s3.toks) fun b ob q=>Aw _ q
 obtain⟨T,id,hT,ht,hg⟩:=hr pins {s3 with heap:=s3.heap.push {cls:= .type "slice",data:= .fields #[vl,vu,.none]}} σ H3 x v vl vu l u s3.heap.objs.size Q I4 r1 (Heap.IsSliceOf.new ..) pl pu q3
 show wpAny (model X.prog X.w) X.A (subscriptTail e (.Slice lo hi none p2) v (.ref s3.heap.objs.size)) (EP X pins σ Q) X.xe {s3 with heap:=s3.heap.push {cls:= .type "slice",data:= .fields #[vl,vu,.none]}}
 exact tail_any (ops:=[.ref s3.heap.objs.size,v]) ht hT hg (by with_unfolding_all rfl)
def cutV (xs:List V) (lo hi:Option Int):List V:=(xs.drop (HT.sIx xs.length 0 lo)).take (HT.sIx xs.length xs.length hi-HT.sIx xs.length 0 lo)
def Ht (xs:List V) (lo hi:Option Int):(cutV xs lo hi).length<=xs.length:=by
 unfold cutV;rw[B3,List.length_drop];lia
def rSlT (K:FG):V->Option Int->Option Int->Hp->VK->Prop:=fun x lo hi H Q=> ∃a xs,x=.ref a/\SqT K H a xs/\
 ¬(HT.sIx xs.length 0 lo=0/\HT.sIx xs.length xs.length hi=xs.length)/\∀p,H p=none->Q (.ref p) (zl H p (.tup (cutV xs lo hi)))
def sl_tup:SlR X (rSlT X.K):=by
 intro pins s σ H x v vl vu lo hi sl Q I rx hs pl pu h;obtain⟨a,xs,rfl,hx,hw,q⟩:=h;cases rx;obtain⟨its,r,ht,hz⟩:=I.tuple hx;have hlen:its.toArray.size=xs.length:=by rw[Af];exact r.length.symm
 refine⟨"tuple",_,C7.lookup,ht.typeIs,?_⟩
 refine HT.getItem_tuple_cut ht hs pl pu (by rw[hlen];exact hw) ?_ (by rw[hlen];exact hz)
 rw[hlen]
 refine⟨.ref s.heap.objs.size,_,I.laid (t':=s.toks) (o:= .tup (cutV xs lo hi)) (fun b ob q=>Aw _ q) (Ac _) ?_,rfl,q _ (I.hok.fresh (Ac _))⟩
 exact⟨A1 (Ht xs lo hi) hz,_,(r.drop (HT.sIx xs.length 0 lo)).take (HT.sIx xs.length xs.length hi-HT.sIx xs.length 0 lo),IsTup.new _ _⟩
def EO (K:FG):R2:=fun x y H Q=> ∃a b xs ys,x=.ref a/\y=.ref b/\SqT K H a xs/\SqT K H b ys/\xs≠[]/\xs.length+ys.length<=sizeLine/\
 (ys=[]->Q (.ref a) H)/\(ys≠[]->∀p,H p=none->Q (.ref p) (zl H p (.tup (xs++ys))))
def Vals.nil_iff {xs:List V} {us:List Value} (r:Vals xs us):us=[]↔xs=[]:=by
 cases r with
 |nil=>simp
 |cons _ _=>simp
theorem Ln:OpR X (binaryOp .Add) (EO X.K):=by
 intro pins s σ H x y v u Q I rx ry h;obtain⟨a,b,xs,ys,rfl,rfl,ha,hb,hx,hz,q1,q2⟩:=h;cases rx;cases ry;obtain⟨its,r1,p1,_⟩:=I.tuple ha;obtain⟨its2,r2,p2,_⟩:=I.tuple hb
 refine HT.cat_tup p1 p2 (fun z=>hx (r1.nil_iff.mp z)) (fun z=>⟨.ref a,H,I,rfl,q1 (r2.nil_iff.mp z)⟩) (fun z=>?_) (by rw[<-r1.length,<-r2.length];exact hz)
 refine⟨.ref s.heap.objs.size,_,I.laid (t':=s.toks) (o:= .tup (xs++ys)) (fun b ob q=>Aw _ q) (Ac _) ?_,rfl,q2 (fun w=>z (r2.nil_iff.mpr w)) _ (I.hok.fresh (Ac _))⟩
 exact⟨by rw[Ar];exact hz,_,r1.append r2,IsTup.new _ _⟩
end
def ixN (n:Nat) (i:Int):Option Nat:=if 0<=i then (if i<n then some i.toNat else none) else if -(n:Int)<=i then some (i+n).toNat else none
def atI {α:Type} (xs:List α) (i:Int):Option α:=(ixN xs.length i).bind fun j=>xs[j]?
def Lo {n:Nat} {i:Int} {j:Nat} (h:ixN n i=some j):seqIndex? i n=some j/\j<n/\ -(n:Int)<=i/\i<n:=by
 unfold ixN at h
 by_cases h0:0<=i
 .rw[Aa h0]at h
  by_cases h1:i<n
  .rw[Aa h1]at h
   have e:i.toNat=j:=Option.some.inj h;exact⟨by rw[seqIndex_of h0 h1,e],by lia,by lia,h1⟩
  .rw[Ab h1]at h;cases h
 .rw[Ab h0]at h
  by_cases h1: -(n:Int)<=i
  .rw[Aa h1]at h
   have e:(i+n).toNat=j:=Option.some.inj h;exact⟨by rw[seqIndex_neg (by lia) h1,e],by lia,h1,by lia⟩
  .rw[Ab h1]at h;cases h
def ER {α:Type} {xs:List α} {i:Int} {v:α} (h:atI xs i=some v):∃j,seqIndex? i xs.length=some j/\xs[j]? =some v/\j<xs.length/\ -(xs.length:Int)<=i/\i<xs.length:=by
 unfold atI at h;cases e:ixN xs.length i with
 |none=>rw[e]at h;cases h
 |some j=>
  rw[e]at h;obtain⟨h1,h2,h3,h4⟩:=Lo e;exact⟨j,h1,h,h2,h3,h4⟩
def AJ {α:Type} {xs:List α} {j:Nat} {v:α} (h:xs[j]? =some v):atI xs (j:Int)=some v:=by
 have hj:j<xs.length:=(Av.mp h).1;have e:ixN xs.length (j:Int)=some j:=by
  unfold ixN;rw[Aa (by lia),Aa (by lia)];simp
 unfold atI;rw[e];exact h
def DW (b:Expr):Prop:=∀o i,subscripted b false o i=operate [o,i] (getItem o i)
def IxR (X:Cx) (r:R2):Prop:=
 ∀(value slice:Expr) (pins:AL) (s:Shared) (σ:St) (H:Hp) (x y:V) (v u:Value) (Q:VK),Inv X pins σ H s->RelV x v->RelV y u->r x y H Q->
  subscripted slice false v u=operate [v,u] (getItem v u)->wpAny (model X.prog X.w) X.A (subscriptTail value slice v u) (EP X pins σ Q) X.xe s
def MtR (X:Cx) (id:String) (r:V->List V->Hp->VK->Prop):Prop:=
 ∀(pins:AL) (s:Shared) (σ:St) (H:Hp) (x:V) (xs:List V) (v:Value) (us:List Value) (Q:VK),Inv X pins σ H s->RelV x v->Vals xs us->r x xs H Q->
  wpAny (model X.prog X.w) X.A (call (.builtin id) (v::us)) (EP X pins σ Q) X.xe s
section
variable {X:Cx} {a b:Expr} {ta tb:TE} {pos:Pos}
def IxR.or {r r':R2} (h:IxR X r) (h':IxR X r'):IxR X (fun x y H Q=>r x y H Q\/r' x y H Q):=by
 intro value slice pins s σ H x y v u Q I rx ry q hs
 rcases q with q|q
 .exact h value slice pins s σ H x y v u Q I rx ry q hs
 .exact h' value slice pins s σ H x y v u Q I rx ry q hs
def Lp {r:R2} (hr:IxR X r) (ha:PE X a ta) (hb:PE X b tb) (hs:DW b):PE X (.Subscript a b pos) (tOp r ta tb):=by
 intro pins s σ H Q I h;exact Subscript_ (binT ha hb I h fun v u s2 x y H2 I2 rx ry q=>hr a b pins s2 σ H2 x y v u Q I2 rx ry q (hs _ _))
def rIxL (K:FG):R2:=fun x y H Q=> ∃p xs i v,x=.ref p/\y=.int i/\SqL K H p xs/\atI xs i=some v/\Q v H
def rIxT (K:FG):R2:=fun x y H Q=> ∃p xs i v,x=.ref p/\y=.int i/\SqT K H p xs/\atI xs i=some v/\Q v H
def rIxS:R2:=fun x y H Q=> ∃z i c,x=.str z/\y=.int i/\z.length<=sizeLine/\atI z.cps.toList i=some c/\Q (.str ⟨#[c]⟩) H
def ix_list:IxR X (rIxL X.K):=by
 intro value slice pins s σ H x y v u Q I rx ry h hs;obtain⟨p,xs,i,z,rfl,rfl,hq,he,q⟩:=h;cases rx;obtain⟨t,rfl⟩:=ry;obtain⟨its,r,pl,hz⟩:=I.list hq;obtain⟨j,h1,h2,h3,h4,h5⟩:=ER he;obtain⟨w,ew,rw'⟩:=r.get h2;have hl:=r.length;have hn:=Dp;have fin:EP X pins σ Q w s:=⟨z,H,I,rw',q⟩
 by_cases h0:0<=i
 .have hj:i.toNat=j:=by
   rw[seqIndex_of h0 h5]at h1;exact Option.some.inj h1
  exact item_listR pl.isList h0 (by lia) (by rw[hj];simpa using ew) fin hs
 .have hj:(i+(its.toArray.size:Int)).toNat=j:=by
   rw[seqIndex_neg (by lia) h4]at h1
   rw[Af,<-hl];exact Option.some.inj h1
  exact subscriptTail_builtinR (x:=w) pl.isList.typeIs slot_list_getitem.lookup
   (wpAny_getItem_list_neg (Q:=fun r s'=>r=w/\EP X pins σ Q r s') pl.isList (by lia) (by rw[Af]<;>lia) (by lia) (by rw[hj];simpa using ew) ⟨rfl,fin⟩) hs
def ix_tup:IxR X (rIxT X.K):=by
 intro value slice pins s σ H x y v u Q I rx ry h hs;obtain⟨p,xs,i,z,rfl,rfl,hq,he,q⟩:=h;cases rx;obtain⟨t,rfl⟩:=ry;obtain⟨its,r,pl,hz⟩:=I.tuple hq;obtain⟨j,h1,h2,h3,h4,h5⟩:=ER he;obtain⟨w,ew,rw'⟩:=r.get h2;have hl:=r.length;have hn:=Dp;have fin:EP X pins σ Q w s:=⟨z,H,I,rw',q⟩;exact subscriptTail_builtinR (x:=w) pl.typeIs slot_tuple_getitem.lookup
  (getItem_tuple (j:=j) (Q:=fun r s'=>r=w/\EP X pins σ Q r s') pl (by lia) (by lia) (by rw[Af,<-hl];exact h1) (by simpa using ew) ⟨rfl,fin⟩) hs
def Lq:IxR X rIxS:=by
 intro value slice pins s σ H x y v u Q I rx ry h hs;obtain⟨z,i,c,rfl,rfl,hz,he,q⟩:=h;obtain⟨t,rfl⟩:=rx;obtain⟨t',rfl⟩:=ry;obtain⟨j,h1,h2,h3,h4,h5⟩:=ER he;have hl:z.cps.toList.length=z.length:=by simp[Str.length]
 rw[hl]at h1 h4 h5;have hn:=Dp;exact tail_any (typeIs_str s z t) slot_str_getitem.lookup (getItem_str (c:=c) (by
  have e1:decide (i < -(2 ^ 63:Int))=false:=As (by lia)
  have e2:decide (i≥2 ^ 63)=false:=As (by lia)
  rw[e1,e2,Cc]) (by rw[h1];simpa using h2) ⟨.str ⟨#[c]⟩,H,I.tok _,⟨_,rfl⟩,q⟩) hs
def Lr (lo hi:Option Int) (n:Nat):(sliceBounds lo hi none n).1=((HT.sIx n 0 lo:Nat):Int)/\(sliceBounds lo hi none n).2.1=((HT.sIx n n hi:Nat):Int)/\(sliceBounds lo hi none n).2.2=1:=by
 refine⟨?_,?_,rfl⟩
 .cases lo with
  |none=>simp[sliceBounds,HT.sIx]
  |some i=>
   simp only[sliceBounds,HT.sIx,Option.getD_none,show (1:Int) > 0 by decide,Bh]
   by_cases h:i<0
   .simp only[h,Bh]<;>lia
   .simp only[h,Bs]<;>lia
 .cases hi with
  |none=>simp[sliceBounds,HT.sIx]
  |some i=>
   simp only[sliceBounds,HT.sIx,Option.getD_none,show (1:Int) > 0 by decide,Bh]
   by_cases h:i<0
   .simp only[h,Bh]<;>lia
   .simp only[h,Bs]<;>lia
def Ls (its:List Value) (lo hi:Option Int):slicePick its.toArray lo hi none=((its.drop (HT.sIx its.length 0 lo)).take (HT.sIx its.length its.length hi-HT.sIx its.length 0 lo)).toArray:=by
 obtain⟨h1,h2,h3⟩:=Lr lo hi its.toArray.size;unfold slicePick;rw[h1,h2,h3];simp only[sliceRange_one,pick_run,Af]<;>rfl
def rSlL (K:FG):V->Option Int->Option Int->Hp->VK->Prop:=fun x lo hi H Q=> ∃a xs,x=.ref a/\SqL K H a xs/\∀p,H p=none->Q (.ref p) (zl H p (.lst (cutV xs lo hi)))
def sl_list:SlR X (rSlL X.K):=by
 intro pins s σ H x v vl vu lo hi sl Q I rx hs pl pu h;obtain⟨a,xs,rfl,hx,q⟩:=h;cases rx;obtain⟨its,r,ht,hz⟩:=I.list hx;have hlen:=r.length
 refine⟨"list",_,slot_list_getitem.lookup,ht.isList.typeIs,?_⟩
 refine wpAny_getItem_list_slice ht.isList hs pl pu .none (by simp) ?_ (by rw[Af]<;>lia)
 rw[Ls,<-hlen]
 refine⟨.ref s.heap.objs.size,_,I.laid (t':=s.toks) (o:= .lst (cutV xs lo hi)) (fun b ob q=>Aw _ q) (Ac _) ?_,rfl,q _ (I.hok.fresh (Ac _))⟩
 exact⟨A1 (Ht xs lo hi) hz,_,0,(r.drop (HT.sIx xs.length 0 lo)).take (HT.sIx xs.length xs.length hi-HT.sIx xs.length 0 lo),A6 _ rfl⟩
def BQ:V->Bool
 |.non=>true
 |.bl _=>true
 |.int _=>true
 |.str _=>true
 |_=>false
def eqV:V->V->Bool
 |.non,.non=>true
 |.bl a,.bl b=>a==b
 |.bl a,.int b=>(if a then 1 else 0)==b
 |.int a,.bl b=>a==(if b then 1 else 0)
 |.int a,.int b=>a==b
 |.str a,.str b=>a==b
 |_,_=>false
def Hu {A:Around} {s:Shared} {y x:V} {u v:Value} (ry:RelV y u) (rx:RelV x v) (fy:BQ y=true) (fx:BQ x=true):SeqAt.EqAt A s u v (eqV y x):=by
 cases y with
 |non=>
  cases ry;cases x with
  |non=>cases rx;exact SeqAt.EqAt.same _
  |bl b=>cases rx;exact SeqAt.EqAt.none_bool b
  |int b=>obtain⟨t,rfl⟩:=rx;exact SeqAt.EqAt.none_int b t
  |str b=>obtain⟨t,rfl⟩:=rx;exact SeqAt.EqAt.none_str b t
  |_=>exact absurd (show false=true from fx) An
 |bl a=>
  cases ry;cases x with
  |non=>cases rx;exact SeqAt.EqAt.bool_none a
  |bl b=>cases rx;exact SeqAt.EqAt.bool_bool a b
  |int b=>obtain⟨t,rfl⟩:=rx;exact SeqAt.EqAt.bool_int a b t
  |str b=>obtain⟨t,rfl⟩:=rx;exact SeqAt.EqAt.bool_str a b t
  |_=>exact absurd (show false=true from fx) An
 |int a=>
  obtain⟨t',rfl⟩:=ry;cases x with
  |non=>cases rx;exact SeqAt.EqAt.int_none a t'
  |bl b=>cases rx;exact SeqAt.EqAt.int_bool a t' b
  |int b=>obtain⟨t,rfl⟩:=rx;exact SeqAt.EqAt.int_int a t' b t
  |str b=>obtain⟨t,rfl⟩:=rx;exact SeqAt.EqAt.int_str a t' b t
  |_=>exact absurd (show false=true from fx) An
 |str a=>
  obtain⟨t',rfl⟩:=ry;cases x with
  |non=>cases rx;exact SeqAt.EqAt.str_none a t'
  |bl b=>cases rx;exact SeqAt.EqAt.str_bool a t' b
  |int b=>obtain⟨t,rfl⟩:=rx;exact SeqAt.EqAt.str_int a t' b t
  |str b=>obtain⟨t,rfl⟩:=rx;exact SeqAt.EqAt.str_str a t' b t
  |_=>exact absurd (show false=true from fx) An
 |_=>exact absurd (show false=true from fy) An
def Lu:ym X (.type "list") (fun xs H Q=> ∃p ys,xs=[.ref p]/\(SqL X.K H p ys\/SqT X.K H p ys)/\∀l,H l=none->Q (.ref l) (zl H l (.lst ys))):=by
 intro pins s σ H xs us Q I r h;obtain⟨p,ys,rfl,hq,q⟩:=h;obtain⟨u,rfl,rx⟩:=qh r;cases rx;have fin:∀(its:List Value),Vals ys its->ys.length<=sizeLine->∀(h':Heap) (c':Nat),(∀b o',s.heap.get? b=some o'->h'.get? b=some o')->
   h'.get? s.heap.objs.size=some {cls:= .type "list",dict:=none,data:= .seq its.toArray c',slots:= #[]}->EP X pins σ Q (.ref s.heap.objs.size) {s with heap:=h'}:=fun its r' hz h' c' kp e=>
  ⟨.ref s.heap.objs.size,_,I.laid (t':=s.toks) kp (Ac _) (show ObjOk X.prog X.w _ h' _ (.lst ys) from ⟨hz,its,c',r',e⟩),rfl,q _ (I.hok.fresh (Ac _))⟩
 rcases hq with hq|hq
 .obtain⟨its,r',pl,hz⟩:=I.list hq
  have hlen:=r'.length;obtain⟨o,ho,hc,n,hd⟩:=pl.isList;exact call_list_seq p (.inl rfl) ho hc hd (fun h' c' kp e=>fin its r' hz h' c' kp e) (by simp only[Af]<;>lia)
 .obtain⟨its,r',pl,hz⟩:=I.tuple hq
  have hlen:=r'.length;obtain⟨o,ho,hc,n,hd⟩:=pl;exact call_list_seq p (.inr rfl) ho hc hd (fun h' c' kp e=>fin its r' hz h' c' kp e) (by simp only[Af]<;>lia)
def tyV (K:FG) (T:String) (x:V) (H:Hp):Prop:=match x with
 |.str _=>T="str"
 |.int _=>T="int"
 |.ref p=>(T="list" /\∃xs,SqL K H p xs)\/(T="tuple" /\∃o,K.lookup p=some o/\o.cls=.type "tuple" /\o.dict=none)\/
  (T="dict" /\((∃kvs,H p=some (.dK kvs))\/∃kvs,H p=some (.dT kvs)))\/(T="set" /\∃S n,H p=some (.set S n))
 |_=>False
def Hv {pins:AL} {σ:St} {H:Hp} {s:Shared} {T:String} {x:V} {v:Value} (I:Inv X pins σ H s) (r:RelV x v) (ty:tyV X.K T x H):
  s.TypeIs v T/\∀a,v=.ref a->∃ob,s.heap.get? a=some ob/\ob.dict=none:=by
 cases x with
 |str z=>
  obtain⟨t,rfl⟩:=r;cases (show T="str" from ty)
  exact⟨typeIs_str s z t,fun _ e=>nomatch e⟩
 |int i=>
  obtain⟨t,rfl⟩:=r;cases (show T="int" from ty)
  exact⟨typeIs_int s i t,fun _ e=>nomatch e⟩
 |ref p=>
  cases r
  rcases ty with ⟨rfl,xs,hq⟩|⟨rfl,o,hk,hc,hd⟩|⟨rfl,hk⟩|⟨rfl,S,n,hk⟩
  .obtain⟨its,_,pl,_⟩:=I.list hq
   refine⟨pl.isList.typeIs,fun a e=>?_⟩
   cases e;obtain⟨o,n,e,c,hd,_⟩:=pl;exact⟨o,e,hd⟩
  .refine⟨⟨o,I.kIn p o hk,hc⟩,fun a e=>?_⟩
   cases e;exact⟨o,I.kIn _ o hk,hd⟩
  .have z:∃o,s.heap.get? p=some o/\o.ExactDict:=by
    rcases hk with ⟨kvs,hk⟩|⟨kvs,hk⟩
    .obtain⟨_,_,_,_,o,_,_,e,ex,_⟩:=I.hok p _ hk
     exact⟨o,e,ex⟩
    .obtain⟨_,_,_,_,o,_,_,e,ex,_⟩:=I.hok p _ hk
     exact⟨o,e,ex⟩
   obtain⟨o,e,ex⟩:=z
   refine⟨⟨o,e,ex.1⟩,fun a e2=>?_⟩
   cases e2;exact⟨o,e,ex.2.1⟩
  .obtain⟨o,_,_,_,e,ex,_⟩:=I.hok p _ hk
   refine⟨⟨o,e,ex.1⟩,fun a e2=>?_⟩
   cases e2;exact⟨o,e,ex.2.1⟩
 |_=>exact False.elim ty
def tBM0 (K:FG) (T:String) (r:V->List V->Hp->VK->Prop) (to:TE):TE:=fun σ H Q=>to σ H fun x H1=>tyV K T x H1/\r x [] H1 Q
def tBM (K:FG) (T:String) (r:V->List V->Hp->VK->Prop) (to:TE) (t:TA):TE:=fun σ H Q=>to σ H fun x H1=>tyV K T x H1/\t σ H1 fun xs H2=>r x xs H2 Q
variable {o e:Expr} {es:List Expr} {to:TE} {t:TA} {name:Str} {apos cpos:Pos} {T id:String} {r:V->List V->Hp->VK->Prop}
def Lv (pa:PlainAttrs T) (slot:Slot T name id) (hty:typeOf (.builtin id)=pure (.type "method_descriptor")) (hm:MtR X id r) (ho:PE X o to)
  (hbase:attributeBase o name X.env (eval o X.env)=eval o X.env:=by rfl) (hline:(apos.endLine==cpos.line)=true:=by rfl):PE X (.Call (.Attribute o name apos) [] [] cpos) (tBM0 X.K T r to):=by
 intro pins s σ H Q I h
 refine wpAny_Call_method0_late hbase hline (zr (ho pins s σ H _ I h) fun v s1 ⟨x,H1,I1,r1,ty,q1⟩=>?_)
 obtain⟨h1,h2⟩:=Hv I1 r1 ty;exact⟨T,id,pa,slot,hty,h1,h2,Calls.callWith_builtin rfl (PySem.evalArgs_none (hm pins s1 σ H1 x [] v [] Q I1 r1 .nil q1))⟩
def DX (pa:PlainAttrs T) (slot:Slot T name id) (hty:typeOf (.builtin id)=pure (.type "method_descriptor")) (hm:MtR X id r) (ho:PE X o to) (ha:PA X (e::es) t)
  (hbase:attributeBase o name X.env (eval o X.env)=eval o X.env:=by rfl)
  (hfew:((backTo cpos (starEach (e::es) X.env)).all (fun x=> !x.1) && (backToKw cpos (keywordEach [] X.env)).all (fun x=>x.1.isSome)
   && decide ((e::es).length+([]:List Keyword).length+(if ([]:List Keyword).isEmpty then 0 else 1)<30))=true:=by rfl)
  (hline:(apos.endLine==cpos.line)=true:=by rfl) (hs:SE X e es:=by rfl) (hplain:(backTo cpos (starEach es X.env)).any (·.1)=false:=by rfl):
  PE X (.Call (.Attribute o name apos) (e::es) [] cpos) (tBM X.K T r to t):=by
 intro pins s σ H Q I h
 refine wpAny_Call_method_late hbase hfew hline rfl (zr (ho pins s σ H _ I h) fun v s1 ⟨x,H1,I1,r1,ty,q1⟩=>?_)
 obtain⟨h1,h2⟩:=Hv I1 r1 ty
 refine⟨T,id,pa,slot,hty,h1,h2,?_⟩
 have hA:=ha cpos pins s1 σ H1 _ I1 q1;rw[hs]at hA ⊢
 refine Calls.callWith_builtin (by show (false || (backTo cpos (starEach es X.env)).any (·.1))=false;rw[hplain]<;>rfl) (Calls.evalArgs_plain ?_)
 exact zr hA fun us s2 ⟨vs,H2,I2,r2,q2⟩=>hm pins s2 σ H2 x vs v us Q I2 r1 r2 q2
end
def MtM (X:Cx) (id:String) (r:V->List V->Hp->VK->Prop):Prop:=
 ∀(pins:AL) (s:Shared) (σ:St) (H:Hp) (x:V) (xs:List V) (v:Value) (us:List Value) (Q:VK),Inv X pins σ H s->RelV x v->Vals xs us->r x xs H Q->
  wpAny (model X.prog X.w) X.A (call (.builtin id) (v::us)) (EP X pins σ Q) X.xe s
def Vals.one:∀{x:V} {us:List Value},Vals [x] us->∃u,us=[u]/\RelV x u
 |_,_,.cons r .nil=>⟨_,rfl,r⟩
def Vals.zero:∀{us:List Value},Vals [] us->us=[]
 |_,.nil=>rfl
theorem Vals.rep {xs:List V} {us:List Value} (h:Vals xs us):∀k:Nat,Vals (List.replicate k xs).flatten (List.replicate k us).flatten
 |0=>.nil
 |k+1=>by
  rw[Bx,Bx,B4,B4];exact Vals.append h (Vals.rep h k)
theorem Hw (its:List Value):∀(k:Nat) (acc:List Value),
  List.foldl (fun x1 x2=>x1++x2) acc.toArray (List.replicate k its.toArray)=(acc++(List.replicate k its).flatten).toArray
 |0,acc=>by simp
 |k+1,acc=>by
  have e:acc.toArray++its.toArray=(acc++its).toArray:=by simp
  have e2:(acc++its)++(List.replicate k its).flatten=acc++(List.replicate (k+1) its).flatten:=by
   rw[Bx,B4,B5]
  rw[<-e2,<-Hw its k (acc++its),<-e,Bx,List.foldl_cons]
section
variable {X:Cx} {pins:AL} {σ:St} {H:Hp} {s:Shared} {l b:Addr} {xs ys zs:List V}
def Inv.lset {its its':List Value} {n:Nat} {f:Array Value->Array Value} {t':Nat} (I:Inv X pins σ H s) (hH:H l=some (.lst xs))
  (e:s.heap.get? l=some {cls:= .type "list",data:= .seq its.toArray n}) (hf:f its.toArray=its'.toArray) (hv:Vals ys its') (hz:ys.length<=sizeLine):
  Inv X pins σ (zl H l (.lst ys)) {s with heap:=s.heap.update l (Obj.mapSeq f),toks:=t'}:=by
 have q:=PySem.IsL.update e f;rw[hf]at q
 refine I.write (x:=l) (e:=l) (by rw[hH];exact trivial) (.inl rfl) (fun b' u hb hu=>(Heap.get?_update_other s.heap (Obj.mapSeq f) (Ne.symm hb)).trans hu) ⟨_,q⟩ ?_
 exact⟨hz,its',_,hv,q⟩
def Inv.lnew {its:List Value} {t':Nat} (I:Inv X pins σ H s) (hv:Vals ys its) (hz:ys.length<=sizeLine):
  Inv X pins σ (zl H s.heap.objs.size (.lst ys)) {s with heap:=s.heap.push {cls:= .type "list",data:= .seq its.toArray},toks:=t'}:=
 I.laid (fun _ _ q=>Aw _ q) (Ac _) ⟨hz,its,0,hv,A6 _ rfl⟩
theorem Inv.fresh (I:Inv X pins σ H s):H s.heap.objs.size=none:=I.hok.fresh (Ac _)
def Inv.lstM (I:Inv X pins σ H s) (hH:H l=some (.lst xs)):xs.length<=sizeLine/\∃(its:List Value) (n:Nat),Vals xs its/\xs.length=its.length/\s.heap.get? l=some {cls:= .type "list",data:= .seq its.toArray n}:=by
 obtain⟨z,its,n,r,e⟩:=I.hok l _ hH;exact⟨z,its,n,r,r.length,e⟩
def Lw {n:Nat} (h:n<=sizeLine):Builtin.List.listTooLong n=false:=by
 unfold Builtin.List.listTooLong;exact As (by lia)
end
section
variable {X:Cx}
def Hx:V->List V->Hp->VK->Prop:=fun x vs H Q=> ∃l xs y,x=.ref l/\vs=[y]/\H l=some (.lst xs)/\xs.length<sizeLine/\Q .non (zl H l (.lst (xs++[y])))
def AK:MtM X "list.append" Hx:=by
 intro pins s σ H x vs v us Q I rx rv h;obtain⟨l,xs,y,rfl,rfl,hH,hz,q⟩:=h;cases rx;obtain⟨u,rfl,ru⟩:=rv.one;obtain⟨z,its,n,r,hl,e⟩:=I.lstM hH
 refine Bt F.slot_list_append ⟨_,e,rfl⟩ F.entry_list_append (F.args_list_append_2 _ _) (PySem.list_append l its.toArray n u (by rw[Af];lia)) ⟨e,?_⟩
 refine⟨.non,_,I.lset (its':=its++[u]) hH e (by simp) (r.append (.cons ru .nil)) ?_,rfl,q⟩
 rw[Ar,Cq];lia
def Hy:V->List V->Hp->VK->Prop:=fun x vs H Q=> ∃l xs,x=.ref l/\vs=[]/\H l=some (.lst xs)/\Q .non (zl H l (.lst []))
def Lx:MtM X "list.clear" Hy:=by
 intro pins s σ H x vs v us Q I rx rv h;obtain⟨l,xs,rfl,rfl,hH,q⟩:=h;cases rx;have hus:=rv.zero;subst hus;obtain⟨z,its,n,r,hl,e⟩:=I.lstM hH
 refine Bt F.slot_list_clear ⟨_,e,rfl⟩ F.entry_list_clear (F.args_list_clear_1 _) (AutoSeq1.list_clear_list_0 l its.toArray n (by rw[Af];lia)) ⟨e,?_⟩
 exact⟨.non,_,I.lset (its':=[]) (ys:=[]) hH e rfl .nil (By _),rfl,q⟩
def rCat:R2:=fun x y H Q=> ∃l b xs zs,x=.ref l/\y=.ref b/\H l=some (.lst xs)/\H b=some (.lst zs)/\xs.length+zs.length<=sizeLine/\∀p,H p=none->Q (.ref p) (zl H p (.lst (xs++zs)))
def Ly:OpR X (binaryOp .Add) rCat:=by
 intro pins s σ H x y v u Q I rx ry h;obtain⟨l,b,xs,zs,rfl,rfl,hH,hB,hz,q⟩:=h;cases rx;cases ry;obtain⟨z,its,n,r,hl,e⟩:=I.lstM hH;obtain⟨z2,its2,n2,r2,hl2,e2⟩:=I.lstM hB
 refine PySem.P.add_list e e2 ?_ (by rw[Af,Af];lia)
 have ea:its.toArray++its2.toArray=(its++its2).toArray:=by simp
 rw[ea];exact⟨.ref _,_,I.lnew (t':=s.toks) (r.append r2) (by rw[Ar];lia),rfl,q _ I.fresh⟩
def rRep:R2:=fun x y H Q=> ∃l k xs,x=.ref l/\y=.int k/\H l=some (.lst xs)/\ -(2 ^ 63)<=k/\k<2 ^ 63/\xs.length*k.toNat<=sizeLine/\
 ∀p,H p=none->Q (.ref p) (zl H p (.lst (List.replicate k.toNat xs).flatten))
def Lz {α:Type} (xs:List α) (k:Nat):(List.replicate k xs).flatten.length=k*xs.length:=by
 induction k with
 |zero=>simp
 |succ k ih=>rw[Bx,B4,Ar,ih,Nat.succ_mul,Nat.add_comm]
def L0:OpR X (binaryOp .Mult) rRep:=by
 intro pins s σ H x y v u Q I rx ry h;obtain⟨l,k,xs,rfl,rfl,hH,h1,h2,hz,q⟩:=h;cases rx;obtain⟨t,rfl⟩:=ry;obtain⟨z,its,n,r,hl,e⟩:=I.lstM hH;have hlen:its.toArray.size*k.toNat<=sizeLine:=by rw[Af,<-hl];exact hz
 have hcap: ¬its.toArray.size*k.toNat > (2 ^ 63-1) / 8:=by
  have:(sizeLine:Nat)<=(2 ^ 63-1) / 8:=by decide
  lia
 have hfit: ¬(!Builtin.List.listFitsIndex k)=true:=by
  rw[fitsIndex_both h1 h2];exact An
 have hlong: ¬Builtin.List.listTooLong (its.toArray.size*k.toNat)=true:=by
  rw[Lw hlen];exact An
 have hnew:List.foldl (fun x1 x2=>x1++x2) #[] (List.replicate (if its.toArray.isEmpty=true then 0 else k.toNat) its.toArray)=(List.replicate k.toNat its).flatten.toArray:=by
  have f0:∀m:Nat,List.foldl (fun x1 x2=>x1++x2) #[] (List.replicate m its.toArray)=(List.replicate m its).flatten.toArray:=fun m=>by
   have:=Hw its m [];rw[Bz]at this;exact this
  rw[f0];cases its with
  |nil=>simp
  |cons a r'=>rw[Ab (by simp)]
 refine wpAny_binaryOp_repeat_ref (T:="list") (U:="int") (by decide) ⟨_,e,rfl⟩ (fun s'=>typeIs_int s' k t) noFill_list_mul F.fills_int_mul F.slot_int_rmul repeat_list F.slot_int_index.lookup
  (Bt F.slot_int_rmul (typeIs_int s k t) F.entry_int_rmul (F.args_int_rmul_2 _ _) (int___rmul___int_list k t l its.toArray n)
   ⟨e,rfl,⟨_,e,rfl⟩,Bt F.slot_list_mul ⟨_,e,rfl⟩ F.entry_list_mul (F.args_list_mul_2 _ _) (AutoListH.list___mul___list_int_3 l its.toArray n k t hfit hcap hlong) ⟨e,?_⟩⟩)
 rw[hnew];exact⟨.ref _,_,I.lnew (t':=s.toks) (r.rep k.toNat) (by rw[Lz,Nat.mul_comm];exact hz),rfl,q _ I.fresh⟩
end
section
variable {prog:Program} {w:World} {A:Around} {E:VP} {s:Shared}
set_option maxRecDepth 100000 in
end
end L2
namespace Att
open PySem PySem.W PySem.Calls PyProof.Rows
def L1 {P:Params} {h:Heap}:∀(ns:List Int) (vs:List Value),WellAll P h vs (ns.map WData.int)->IntsAre vs ns:=by
 intro ns
 induction ns with
 |nil=>
  intro vs w;rw[Bp]at w;cases w;exact .nil
 |cons n ns ih=>
  intro vs w;rw[Ao]at w;cases w with
  |cons a b=>
   cases a;exact .cons _ _ (ih _ b)
def L5 {l:OpenLaw} {n:Nat} (hn:l.most=some n) {P:Params} {h:Heap} {args:List WData} {vals:List Value}
  (hpre:l.row.toRowW.claim.pre args=true) (hwl:WellAll P h vals args):
  ∃a vs ns,vals=[Value.ref a]/\args=[WData.list (ns.map WData.int)]/\h.get? a=some {cls:= .type "list",data:= .seq vs.toArray}/\IntsAre vs ns/\ns.length<=n:=by
 have hsh:WShape.hasAll [] args [.list .int]=true:=(pre_splitW hpre).1;have hc:l.pre.holds [] {args:=args}=true:=(pre_splitW hpre).2;obtain⟨d,r,rfl,h1,h2⟩:=hasAllW_cons hsh;obtain rfl:=hasAllW_nil h2;obtain⟨xs,rfl,h3⟩:=hasW_list h1;obtain⟨ns,rfl⟩:=items_int h3;have hlen:ns.length<=n:=by
  unfold OpenLaw.pre at hc;have h4:(WTm.not (.lt (.lit (.int (n:Int))) (.len (.arg 0)))).holds [] {args:=[.list (ns.map .int)]}=true:=by
   have h4:=(holds_andW hc).1;rw[hn]at h4;exact h4
  have h5:=condW_of h4 (w_not (w_lt w_lit (w_len_list (w_arg rfl))));rw[Ad]at h5
  refine Nat.le_of_not_lt fun q=>?_
  have q':(n:Int)<((ns.length:Nat):Int):=by lia
  first
   | (rw[Bq q']at h5;exact absurd h5 (by decide))
   | (simp at h5;lia)
 cases hwl with
 |cons w1 w2=>
  cases w2;cases w1 with
  |list ho hall=>exact⟨_,_,ns,rfl,rfl,ho,L1 ns _ hall,hlen⟩
def L6 (l:OpenLaw) (args:List WData):l.row.toRowW.claim.post args (.bool true) args=true:=
 postW_of (r:=l.row.toRowW) (X:=(true==true))
  (show WShape.has [] (.bool true) .bool=true by first|rfl|decide|simp[WShape.has,WShape.arms,WShape.armsAll])
  (show (WTm.eq .res (.lit (.bool true))).value [] {args:=args,res:=some (.bool true),after:=args}=some (.bool (true==true)) from w_eq_bool (w_res rfl) w_lit) rfl
def attach_call {l:OpenLaw} {n:Nat} {q:Program} {loose:List Str} {XP:(Str->Option Value)->Heap->Prop} {YP:World->Heap->Prop} {d:DefRec}
  (hn:l.most=some n) (hdf:d.params.defaults=[])
  (call:∀(w:World) (s₀ s₁:Shared) (mg mb:Str->Option Value) (fa:Addr) (o:Obj) (pm cd doc:Value) (a:Addr) (vs:List Value) (ns:List Int),
   Ground q loose [] XP w s₀ mg mb s₁.heap->YP w s₁.heap->
   s₁.heap.get? fa=some o->o.data=.func (docDef d.name d.params d.body d.scope pm cd doc)->s₁.heap.CodeRec cd d.name->mg d.name=some (.ref fa)->
   s₁.heap.get? a=some {cls:= .type "list",data:= .seq vs.toArray}->IntsAre vs ns->ns.length<=n->s₁.gens= #[]->
   codeAny (model l.prog w) callerA (.call (.ref fa) ⟨[.ref a],[]⟩) (fun r s'=>r=.ok (.ret (.bool true))/\OldK s₁.heap s'.heap/\s'.os=s₁.os/\AllBare s'.gens) s₁):
  WalkO q loose XP YP l.row.toRowW d [] (fun f vs=>PySem.call f vs):=by
 intro w s₀ s₁ mg mb G Y fa o pm cd doc dV kV ho hd hcd hD hmg hg args vals as hpre hlay hrd hwl hlo;obtain rfl:dV=.none:=Dflts.none hD hdf;obtain rfl:kV=.none:=Dflts.noKw hD;obtain⟨a,vs,ns,rfl,rfl,hobj,hints,hlen⟩:=L5 hn hpre hwl
 refine enter_call (codeAny_mono (call w s₀ s₁ mg mb fa o pm cd doc a vs ns G Y ho (fd_plain hd) hcd hmg hobj hints hlen hg) fun r s' hq=>?_)
 obtain⟨rfl,h2,h3,h4⟩:=hq;exact⟨.inl ⟨.bool true,.bool true,[],rfl,fun _=>rfl,.bool true,L6 l _,fun _=>⟨List.Pairwise.nil,fun _ hm=>(nomatch hm)⟩⟩,h2,h3,h4⟩
end Att
namespace L2
open PySem PySem.Spec PyProof.Rows
theorem Hz:∀{vs:List Value} {ns:List Int},IntsAre vs ns->Vals (ns.map V.int) vs
 |_,_,.nil=>.nil
 |_,_,.cons n t h=>.cons ⟨t,rfl⟩ (Hz h)
def Only (H:Hp):Prop:=∀b,H b=none\/∃o xs,H b=some (.frz o (.lst xs))
def L7 {P:Program} {w:World} {K:FG} {mg mb:Str->Option Value} {CX:qq} {k:Nat} {fa a:Addr} {fd:FuncData} {x:Str} {sp:Sp} {s₁:Shared} {vs:List Value} {ns:List Int}
  (KX:K.In s₁.heap) (hns:s₁.heap.Ns mainGlobals mg) (hb:s₁.heap.Ns builtinsNs mb) (hbb:∀x:Str,x≠"__name__" ->mb x=bootBuiltins x) (hlim:s₁.heap.NoLimit) (hg:s₁.gens= #[])
  (ha:s₁.heap.get? a=some {cls:= .type "list",data:= .seq vs.toArray}) (hi:IntsAre vs ns) (hl:ns.length<=sizeLine) (hr:Room k callerA)
  (F:∀base:Heap,K.In base->base.Ns mainGlobals mg->FnOk P w K mg base CX k fa fd [x] sp) (hbind:∀(s:Shared) (u:Value),BindsTo s fd ⟨[u],[]⟩ [(x,u)])
  (hsp:∀H:Hp,Only H->SqL K H a (ns.map V.int)->sp [.ref a] H (fun v _=>v=.bl true) fun _ _ _=>False)
  (hCX:∀H e s',CX [] H s₁ (fun _ _ _=>False) e s'->False):
  codeAny (model P w) callerA (.call (.ref fa) ⟨[.ref a],[]⟩) (fun r s'=>r=.ok (.ret (.bool true))/\OldK s₁.heap s'.heap/\s'.os=s₁.os/\AllBare s'.gens) s₁:=by
 have rv:=Hz hi;have lenV:=hi.length;have core:∀H:Hp,Only H->SqL K H a (ns.map V.int)->HOk P w H s₁.heap->(∀b,H b≠none->b=a)->(H a≠none->K.lookup a=none)->
   codeAny (model P w) callerA (.call (.ref fa) ⟨[.ref a],[]⟩) (fun r s'=>r=.ok (.ret (.bool true))/\OldK s₁.heap s'.heap/\s'.os=s₁.os/\AllBare s'.gens) s₁:=by
  intro H hO hS hok hA hK;have base_of:∀{b:Addr} {o:Obj},s₁.heap.get? b=some o->H b=none->(hidT s₁.heap H).get? b=some o:=fun e n=>JP e n
  have noA:∀{b:Addr} {o:Obj} {es:Array DictEntry} {ep:Nat},s₁.heap.get? b=some o->o.data=.dict es ep->H b=none:=fun {b o es ep} e d=>by
   cases q:H b with
   |none=>rfl
   |some u=>
    have e':b=a:=hA b (by rw[q];simp)
    subst e';rw[ha]at e;cases e;have d':Data.seq vs.toArray _=Data.dict es ep:=d;cases d'
  have nsK:∀{b:Addr} {m:Str->Option Value},s₁.heap.Ns b m->(hidT s₁.heap H).Ns b m:=fun {b m} ⟨o,es,ep,e,d,r⟩=>⟨o,es,ep,base_of e (noA e d),d,r⟩
  have hKb:K.In (hidT s₁.heap H):=fun b o e=>base_of (KX b o e) (by
   cases q:H b with
   |none=>rfl
   |some u=>
    have e':b=a:=hA b (by rw[q];simp)
    subst e';rw[hK (by rw[q];simp)]at e;cases e)
  have hM:Mod K mg (hidT s₁.heap H):=⟨hKb,nsK hns,⟨mb,nsK hb,hbb⟩,let ⟨mc,h1,h2⟩:=hlim;⟨mc,nsK h1,h2⟩⟩;have e0:Env0 P w K mg (hidT s₁.heap H) callerA [] s₁ H:=⟨rfl,hM,fun b o e=>JQ e,Nat.le_of_eq (JO _ _),trivial,fun b hb=>absurd (show b∈([]:List Addr) from hb) (by simp),hok,.of_eq hg⟩
  refine codeAny_mono ((F _ hKb (nsK hns)).run callerA [] s₁ H ⟨[.ref a],[]⟩ [.ref a] [.ref a] _ _ hr e0 (hbind s₁ (.ref a)) (.cons rfl .nil) (hsp H hO hS)) fun r s' h=>?_
  cases r with
  |error e=>exact (hCX H e s' h).elim
  |ok fl=>
   cases fl with
   |next=>exact False.elim h
   |brk=>exact False.elim h
   |cont=>exact False.elim h
   |ret u=>
    obtain⟨v,H',os,bare,un,hok',r',q⟩:=h;have q':v=.bl true:=q;subst q';obtain rfl:u=Value.bool true:=r'
    refine⟨rfl,OldK.of_keep fun b o e=>?_,os,bare⟩
    cases q:H b with
    |none=>exact un.keep b o e q (by intro z;exact absurd (show b∈([]:List Addr) from z) (by simp)) (by simp)
    |some u=>
     rcases hO b with z|⟨ob,xs,z⟩
     .rw[q]at z;cases z
     .have z2:=un.frzs b ob _ z
      obtain⟨e1,_⟩:=hok b _ z;obtain⟨e2,_⟩:=hok' b _ z2;rw[e]at e1;cases e1;exact e2
 cases hk:K.lookup a with
 |some o=>
  have e:=KX a o hk;rw[ha]at e;cases e
  refine core (fun _=>none) (fun _=>.inl rfl) (.inr ⟨_,vs.toArray,_,hk,rfl,rfl,rfl,by rw[Af,lenV];exact hl,by simpa using rv⟩) (fun b u z=>by have z':(none:Option HO)=some u:=z;cases z') (fun b z=>absurd rfl z) fun z=>absurd rfl z
 |none=>
  refine core (fun b=>if b=a then some (.frz {cls:= .type "list",data:= .seq vs.toArray} (.lst (ns.map V.int))) else none) (fun b=>?_) (.inl (.inr ⟨{cls:= .type "list",data:= .seq vs.toArray},Aa rfl⟩)) (fun b u z=>?_) (fun b z=>?_) fun _=>hk
  .by_cases hb:b=a
   .exact .inr ⟨_,_,Aa hb⟩
   .exact .inl (Ab hb)
  .by_cases hb:b=a
   .have z':=(Aa hb).symm.trans z
    cases z';subst hb;exact⟨ha,by rw[Ad];exact hl,vs,_,rv,ha⟩
   .have z':=(Ab hb).symm.trans z
    cases z'
  .by_cases hb:b=a
   .exact hb
   .exact absurd (Ab hb) z
def L8 (s:Stmt) (j:Nat):Stmt:=match s with
 |.ClassDef _ _ _ body _ _ _ _ _ _ _=>body.getD j (.Pass ⟨0,0,0,0⟩)
 |_=> .Pass ⟨0,0,0,0⟩
def Dq (s:Stmt):Arguments:=match s with
 |.FunctionDef _ a _ _ _ _ _ _ _ _=>a
 |_=>{posonlyargs:=[],args:=[],vararg:=none,kwonlyargs:=[],kw_defaults:=[],kwarg:=none,defaults:=[]}
def BR (s:Stmt):List Stmt:=match s with
 |.FunctionDef _ _ b _ _ _ _ _ _ _=>b
 |_=>[]
def zy (s:Stmt):Scope:=match s with
 |.FunctionDef _ _ _ _ _ _ sc _ _ _=>sc
 |_=>{kind:= .function,names:=[],isGenerator:=false,isCoroutine:=false}
abbrev E0:XK:=fun _ _ _=>False
structure Fun (K:FG) (x qual:Str) (st:Stmt) (f:Addr) (fd:FuncData):Prop where
 ex:∃(oc:Value) (od:Option Addr) (kV doc pm:Value) (an:Option Addr) (cdv ct:Value) (osl:Array (Option Value)),
  fd=PySem.W.fnOf x qual (Dq st) (BR st) (zy st) .none kV doc pm an cdv ct/\K.lookup f=some ⟨oc,od,.func fd,osl⟩/\PySem.W.codeIn K cdv qual=true
 kp:PySem.W.keepIn K (.ref f)=true
section
variable {P:Program} {w:World} {K:FG} {mg:Str->Option Value} {base:Heap}
def Fun.binds {x qual:Str} {st:Stmt} {f:Addr} {fd:FuncData} {ps:List Str} (F:Fun K x qual st f fd)
  (h:∀(kV doc pm:Value) (an:Option Addr) (cdv ct:Value) (us:List Value),us.length=ps.length->bindArgs (PySem.W.fnOf x qual (Dq st) (BR st) (zy st) .none kV doc pm an cdv ct) ⟨us,[]⟩=pure (ps.zip us)):Binds K fd ps []:=by
 obtain⟨oc,od,kV,doc,pm,an,cdv,ct,osl,rfl,lk,hcd⟩:=F.ex;exact .all (h kV doc pm an cdv ct)
end
section
variable {X:Cx}
def pv (i:Nat) {x:Str} {pos:Pos} (hN:X.N[i]? =some x:=by rfl) (hv:Vis X.env.scope x:=by first|exact Or.inl rfl|exact Or.inr (Or.inl rfl)|exact Or.inr (Or.inr rfl)) (hd:(x==("__debug__" :Str))=false:=by decide)
 (hcd:(x==("__classdict__" :Str))=false:=by decide):PE X (.Name x pos) (tVar i):=JS hN hv hd hcd
end
end L2
set_option maxHeartbeats 0
namespace L4
open PySem PySem.W PyProof.Rows L2
def DY (tb:String->Option Builtin) (p:Program) (w:World) (m:Nat) (ann:Option Value):Nat->SharedT->Thread->Option SharedT
 |0,_,_=>none
 |n+1,s,t=>match through t with
  |true=>some s
  |false=>match stepOk m ann t with
   |false=>none
   |true=>match stepT (denote tb) p w s t with
    |some (s',t')=>DY tb p w m ann n s' t'
    |none=>none
theorem HA {tb:String->Option Builtin} {p:Program} {w:World} {m:Nat} {ann:Option Value}:∀{n:Nat} {s s':SharedT} {t:Thread},DY tb p w m ann n s t=some s'->topRun tb p w m ann n s.abs t=some s'.abs
 |0,_,_,_,h=>by cases h
 |n+1,s,s',t,h=>by
  unfold DY at h;unfold topRun;cases he:through t with
  |true=>rw[he]at h;cases h;rfl
  |false=>
   rw[he]at h;cases hk:stepOk m ann t with
   |false=>rw[hk]at h;cases h
   |true=>
    rw[hk]at h;cases hs:stepT (denote tb) p w s t with
    |none=>rw[hs]at h;cases h
    |some r=>
     obtain⟨s2,t2⟩:=r;rw[hs]at h;rw[stepT_spec hs];exact HA h
def HB:List Obj->Nat->BT->BT
 | [],_,t=>t
 |o::r,n,t=>HB r (n+1) (t.ins n o)
def boot (P:Params) (os:OsState):SharedT:=⟨HB (boot_heap P).objs.toList 0 .nil,11,(boot_heap P).life,Array.mk [],boot_drawn,boot_toks,os⟩
def L9 (P:Params) (os:OsState):(boot P os).abs=⟨boot_heap P,Array.mk [],boot_drawn,boot_toks,os⟩:=by kernel_rfl
def LA (P:Params):((boot_heap P).isNs mainGlobals,(boot_heap P).objs.size,(boot_heap P).nsMap mainGlobals "__annotations__")=(true,11,some (.ref 6)):=by kernel_rfl
section
variable (p q:Program) (loose:List Str) {β:Type} (obs:Heap->β)
def HC (P:Params) (s:Shared):=
 ((staticsOk (importedModules p.main.body) (boot_heap P) s.heap && namesBound p s.heap && gensDone s && laidKept (boot_heap P) s.heap),openSeen q loose (importedModules p.main.body) (fun _=>true) true s,obs s.heap)
def HD (N:Nat) (w:World) (os:OsState):=(DY treeTable p w 11 (some (.ref 6)) N (boot w.params os) (topStub p)).map fun s=>HC p q loose obs w.params s.abs
end
def left_one {p q:Program} {loose:List Str} {β:Type} {obs:Heap->β} {good:β} {N:Nat} (e:opening p=plainProg p.main.scope.names) (hN:Nat.ble 600 N=true) (f:∀s,fenceModules? p s=some s)
  (h:∀w os,HD p q loose obs N w os=some (true,openGood q loose,good)):LeftO p q loose (fun _=>true) (fun s=>obs s.heap) (fun _=>good) N:=fun w=>by
 obtain⟨⟨h0,gs,d,k,os⟩,e1,e2⟩:=Cr.mp (boot_open e hN f w);obtain⟨rfl,rfl,rfl,rfl⟩:h0=boot_heap w.params/\gs=Array.mk []/\d=boot_drawn/\k=boot_toks:=by simpa using e2
 obtain⟨s1,r1,r2⟩:=Cr.mp (h w os);have r3:=HA r1;rw[L9]at r3;obtain⟨z1,z2,z3⟩:_/\_/\_:=by simpa only[Prod.mk.injEq] using LA w.params
 obtain⟨l1,l2,l3⟩:_/\_/\_:=by simpa only[HC,Prod.mk.injEq] using r2
 have t:topFrom treeTable p w N ⟨boot_heap w.params,Array.mk [],boot_drawn,boot_toks,os⟩=some s1.abs:=by
  unfold topFrom;dsimp only;rw[z1,z2,z3,r3];show (match staticsOk (importedModules p.main.body) (boot_heap w.params) s1.abs.heap && namesBound p s1.abs.heap && gensDone s1.abs && laidKept (boot_heap w.params) s1.abs.heap with|true=>_|false=>_)=_
  rw[l1]
 unfold openEnds;rw[e1];show (topFrom treeTable p w N _).map _=_;rw[t];exact congrArg some (Prod.ext l2 l3)
def frag (as:List Addr) (h:Heap):Frag:=as.filterMap fun a=>(h.get? a).map fun o=>(a,o)
def LB {as:List Addr} {h:Heap}:(frag as h).In h:=by
 intro a o e
 induction as with
 |nil=>cases e
 |cons b r ih=>
  unfold frag at e;rw[Cn]at e;cases hb:h.get? b with
  |none=>rw[hb]at e;exact ih e
  |some ob=>
   rw[hb]at e;simp only[A0,List.lookup]at e
   split at e
   .rename_i q;cases e;rw[beq_iff_eq.mp q];exact hb
   .exact ih e
def HE:Value->Bool
 |.none=>true
 |_=>false
def LC {v:Value} (h:HE v=true):v=.none:=by cases v<;>first|rfl|cases h
def DZ (K:Frag) (qual:Str):Option (Option Value)->Option (Str×Str×Arguments×FuncBody×Scope×Bool)
 |some (some (.ref f))=>match K.lookup f with
  |some ⟨_,_,.func fd,_⟩=>some (fd.name,fd.qualname,fd.params,fd.body,fd.scope,(Nat.beq fd.globals mainGlobals && fd.closure.isEmpty && HE fd.defaults && Nat.beq fd.builtins builtinsNs && codeIn K fd.code qual && isFn K (.ref f)))
  |_=>none
 |_=>none
def Ea (x qual:Str) (st:Stmt):Option (Str×Str×Arguments×FuncBody×Scope×Bool):=some (x,qual,Dq st,.stmts (BR st),zy st,true)
def LD {K:Frag} {x qual:Str} {st:Stmt} {v:Option (Option Value)} (e:DZ K qual v=Ea x qual st):
  ∃f fd,v=some (some (.ref f))/\Fun K x qual st f fd/\isFn K (.ref f)=true:=by
 unfold DZ at e
 split at e
 .rename_i f
  split at e
  .rename_i oc od fd sl hl
   unfold Ea at e;simp only[Cd,Prod.mk.injEq,Bo]at e;obtain⟨e1,e2,e3,e4,e5,⟨⟨⟨⟨h1,h2⟩,h3⟩,h4⟩,h5⟩,h6⟩:=e
   refine⟨f,fd,rfl,⟨⟨oc,od,fd.kwdefaults,fd.doc,fd.pyModule,fd.annotations,fd.code,fd.closureTuple,sl,?_,hl,h5⟩,?_⟩,h6⟩
   .obtain⟨a1,a2,a3,a4,a5,a6,a7,a8,a9,a10,a11,a12,a13,a14,a15⟩:=fd
    simp only at e1 e2 e3 e4 e5 h1 h2 h3 h4;have h1:=Nat.eq_of_beq_eq_true h1;have h2:=List.isEmpty_iff.mp h2;have h3:=LC h3;have h4:=Nat.eq_of_beq_eq_true h4;subst e1 e2 e3 e4 e5 h1 h2 h3 h4;rfl
   .unfold keepIn
    simp only[hl]
  .cases e
 .cases e
inductive KV where
 |int (i:Int)
 |str (s:Str)
def Dr:Option (Option Value)->Option KV
 |some (some (.int i _))=>some (.int i)
 |some (some (.str s _))=>some (.str s)
 |_=>none
def LF {v:Option (Option Value)} {i:Int} (e:Dr v=some (.int i)):∃t,v=some (some (.int i t)):=by
 unfold Dr at e
 split at e
 .simp only[Cd,KV.int.injEq]at e;subst e;exact⟨_,rfl⟩
 .simp at e
 .cases e
def LG {v:Option (Option Value)} {i:Str} (e:Dr v=some (.str i)):∃t,v=some (some (.str i t)):=by
 unfold Dr at e
 split at e
 .simp at e
 .simp only[Cd,KV.str.injEq]at e;subst e;exact⟨_,rfl⟩
 .cases e
def Eb:Option (Option Value)->Bool
 |some none=>true
 |_=>false
def LH {v:Option (Option Value)} (e:Eb v=true):v=some none:=by
 unfold Eb at e
 split at e
 .rfl
 .cases e
def Ec (p:Program) (i:Nat):Stmt:=p.main.body.getD i (.Pass ⟨0,0,0,0⟩)
structure Ask where
 law:Nat
 at_:List Addr
 defs:List (Str×Nat)
 cls:List (Str×Nat×List (Str×Str×Nat)×List Str)
 bare:List Str
 con:List (Str×KV)
def LI (K:Frag) (C:Addr):Bool:=
 plainGet K C Str.empty && hasDictIn K C && plainOver K C && (findIn K (.ref C) "__setattr__" ==some (some (.builtin "object.__setattr__"))) && makesIn K C && keepIn K (.ref C)
def LJ (K:Frag) (c:Str×Nat×List (Str×Str×Nat)×List Str):Option Value->Option (List (Option (Str×Str×Arguments×FuncBody×Scope×Bool))×Bool×List Bool)
 |some (.ref C)=>some (c.2.2.1.map (fun m=>DZ K m.2.1 (findIn K (.ref C) m.1)),LI K C,c.2.2.2.map fun a=>Eb (findIn K (.ref C) a))
 |_=>none
def seenK (A:Ask) (K:Frag):=
 (A.defs.map (fun d=>DZ K d.1 (nsIn K mainGlobals d.1)),A.cls.map (fun c=>LJ K c (nsIn K mainGlobals c.1).join),A.bare.map (fun b=>Eb (nsIn K mainGlobals b)),A.con.map fun c=>Dr (nsIn K mainGlobals c.1))
def seen (A:Ask) (h:Heap):=seenK A (frag A.at_ h)
def good (p:Program) (A:Ask):=
 (A.defs.map (fun d=>Ea d.1 d.1 (Ec p d.2)),
  A.cls.map (fun c=>some (c.2.2.1.map (fun m=>Ea m.1 m.2.1 (L8 (Ec p c.2.1) m.2.2)),true,c.2.2.2.map fun _=>true)),
  A.bare.map (fun _=>true),A.con.map fun c=>some c.2)
def lawView (A:Ask) (p:Program):Program:={p with main:={p.main with body:=[Ec p A.law]}}
def looseOf (p:Program):List Str:=(p.main.scope.names.map (·.1)).filter fun x=> !(x=="law")
def claim (A:Ask) (N:Nat) (p:Program) (w:World) (os:OsState):=HD p (lawView A p) (looseOf p) (seen A) N w os
def goal (A:Ask) (p:Program):=some (true,openGood (lawView A p) (looseOf p),good p A)
section
variable {p:Program} {A:Ask} {K:Frag}
def Ed {α β:Type} {f g:α->β} {l:List α} {i:Nat} {a:α} (e:l.map f=l.map g) (h:l[i]? =some a):f a=g a:=by
 have:=congrArg (fun z=>z[i]?) e
 simp only[A8,h,A0,Cd]at this;exact this
def def_at (S:seenK A K=good p A) (i:Nat) {d:Str×Nat} (h:A.defs[i]? =some d):∃f fd,nsIn K mainGlobals d.1=some (some (.ref f))/\Fun K d.1 d.1 (Ec p d.2) f fd:=by
 obtain⟨f,fd,e,F,_⟩:=LD (Ed (congrArg (fun z=>z.1) S) h)
 exact⟨f,fd,e,F⟩
def bare_at (S:seenK A K=good p A) (i:Nat) {b:Str} (h:A.bare[i]? =some b):nsIn K mainGlobals b=some none:=LH (Ed (congrArg (fun z=>z.2.2.1) S) h)
def int_at (S:seenK A K=good p A) (i:Nat) {x:Str} {n:Int} (h:A.con[i]? =some (x,.int n)):∃t,nsIn K mainGlobals x=some (some (.int n t)):=LF (Ed (congrArg (fun z=>z.2.2.2) S) h)
def str_at (S:seenK A K=good p A) (i:Nat) {x:Str} {n:Str} (h:A.con[i]? =some (x,.str n)):∃t,nsIn K mainGlobals x=some (some (.str n t)):=LG (Ed (congrArg (fun z=>z.2.2.2) S) h)
end
section
variable {K:Frag} {x qual:Str} {st:Stmt} {f:Addr} {fd:FuncData} {p1 p2 p3 p4 p5 p6 p7 p8:Str}
abbrev Bd (x qual:Str) (st:Stmt) (us:List Value) (r:List (Str×Value)):Prop:=∀(kV doc pm:Value) (an:Option Addr) (cdv ct:Value),bindArgs (fnOf x qual (Dq st) (BR st) (zy st) .none kV doc pm an cdv ct) ⟨us,[]⟩=pure r
def CM {us:List Value} {n:Nat} (h:us.length=n+1):∃a r,us=a::r/\r.length=n:=by
 cases us with
 |nil=>cases h
 |cons a r=>exact⟨a,r,rfl,by simpa using h⟩
theorem b1 (F:Fun K x qual st f fd) (h:∀a,Bd x qual st [a] [(p1,a)]):Binds K fd [p1] []:=F.binds fun _ _ _ _ _ _ us h0=>by
 obtain⟨a,u1,rfl,h1⟩:=CM h0;obtain rfl:u1=[]:=Cs h1;exact h _ _ _ _ _ _ _
theorem b2 (F:Fun K x qual st f fd) (h:∀a b,Bd x qual st [a,b] [(p1,a),(p2,b)]):Binds K fd [p1,p2] []:=F.binds fun _ _ _ _ _ _ us h0=>by
 obtain⟨a,u1,rfl,h1⟩:=CM h0;obtain⟨b,u2,rfl,h2⟩:=CM h1;obtain rfl:u2=[]:=Cs h2;exact h _ _ _ _ _ _ _ _
theorem b3 (F:Fun K x qual st f fd) (h:∀a b c,Bd x qual st [a,b,c] [(p1,a),(p2,b),(p3,c)]):Binds K fd [p1,p2,p3] []:=F.binds fun _ _ _ _ _ _ us h0=>by
 obtain⟨a,u1,rfl,h1⟩:=CM h0;obtain⟨b,u2,rfl,h2⟩:=CM h1;obtain⟨c,u3,rfl,h3⟩:=CM h2;obtain rfl:u3=[]:=Cs h3;exact h _ _ _ _ _ _ _ _ _
theorem binds_law (F:Fun K x qual st f fd) (h:∀a,Bd x qual st [a] [(p1,a)]) (s:Shared) (u:Value):BindsTo s fd ⟨[u],[]⟩ [(p1,u)]:=by
 obtain⟨oc,od,kV,doc,pm,an,cdv,ct,osl,rfl,lk,hcd⟩:=F.ex;exact .of_eq (h u _ _ _ _ _ _)
end
def walk_one {l:OpenLaw} {n k:Nat} {q:Program} {loose:List Str} {XP:(Str->Option Value)->Heap->Prop} {A:Ask} {d:DefRec} {CX:World->qq} {sp:Frag->Sp} {x:Str}
  (hn:l.most=some n) (hn2:n<=sizeLine) (hdf:d.params.defaults=[]) (hr:Room k callerA)
  (F:∀(w:World) (mg:Str->Option Value) (fa:Addr) (h:Heap) (K:Frag),K.In h->h.Ns mainGlobals mg->seenK A K=good l.prog A->mg d.name=some (.ref fa)->
   ∃fd:FuncData,(∀(s:Shared) (u:Value),BindsTo s fd ⟨[u],[]⟩ [(x,u)])/\∀base:Heap,K.In base->base.Ns mainGlobals mg->FnOk l.prog w K mg base (CX w) k fa fd [x] (sp K))
  (hsp:∀(K:Frag) (H:Hp) (a:Addr) (ns:List Int),ns.length<=n->Only H->SqL K H a (ns.map V.int)->sp K [.ref a] H (fun v _=>v=.bl true) fun _ _ _=>False)
  (hCX:∀(w:World) (H:Hp) (s:Shared) (e:Value) (s':Shared),CX w [] H s (fun _ _ _=>False) e s'->False):
  WalkO q loose XP (fun _ h=> ∃K:Frag,K.In h/\seenK A K=good l.prog A) l.row.toRowW d [] (fun f vs=>PySem.call f vs):=by
 refine Att.attach_call hn hdf fun w s0 s1 mg mb fa o pm cd doc a vs ns G Y ho hd hcd hmg hobj hints hlen hg=>?_
 obtain⟨K,KX,S⟩:=Y;obtain⟨fd,hb,hF⟩:=F w mg fa _ K KX G.T.g S hmg;exact L7 KX G.T.g G.T.b G.T.builtins G.T.nolimit hg hobj hints (A1 hlen hn2) hr hF hb (fun H hO hS=>hsp K H a ns hlen hO hS) fun H e s'=>hCX w H s1 e s'
def seen_ok {A:Ask} {p:Program} (w:World) (s:Shared) (e:seen A s.heap=good p A):∃K:Frag,K.In s.heap/\seenK A K=good p A:=⟨_,LB,e⟩
def seen_keeps {A:Ask} {p:Program} (w:World) (h h':Heap) (y:∃K:Frag,K.In h/\seenK A K=good p A) (k:∀b o,h.get? b=some o->h'.get? b=some o):∃K:Frag,K.In h'/\seenK A K=good p A:=
 let ⟨K,a,b⟩:=y
 ⟨K,a.keeps k,b⟩
end L4
namespace L2
open PySem PySem.Spec PyProof.Rows
def yu (X:Cx) (N:List Str) (scope:Scope) (cl:List (Str×Addr)) (C:Addr) (s:Shared) (H:Hp) (ex:List Addr):Cx where
 prog:=X.prog
 w:=X.w
 K:=X.K
 mg:=X.mg
 base:=X.base
 A:=X.A
 N:=N
 s₀:=s
 H₀:=H
 env:=compEnvC scope cl C X.env
 outer:=X.stack
 stack:=X.stack
 ex:=ex
 fn:=fun _=>false
 calm:=X.calm
 pn:=[]
 xe:=fun _ _=>False
theorem ES {env:Env}:∀(names:List (Str×NameKind)) (acc:List (Str×Addr)),(∀y∈names,y.2=.free->∃c,env.cells.lookup y.1=some c)->
  ∃cl,(forIn names acc (fun x cs=>match x with|(name,kind)=>if (kind==NameKind.free)=true then (do let a <-cellOf env name;pure (ForInStep.yield ((name,a)::cs))) else pure (ForInStep.yield cs)):Sem (List (Str×Addr)))=pure cl/\
   (∀p∈cl,p∈acc\/env.cells.lookup p.1=some p.2)/\(∀y∈names,y.2=.free->∃c,(y.1,c)∈cl)/\∀p∈acc,p∈cl
 | [],acc,_=>⟨acc,by rw[List.forIn_nil],fun p hp=>.inl hp,fun _ h=>(nomatch h),fun _ h=>h⟩
 | (n,k)::r,acc,h=>by
  rw[List.forIn_cons]
  by_cases hk:k=.free
  .subst hk
   obtain⟨c,hc⟩:=h (n,.free) Ak rfl;obtain⟨cl,e,h1,h2,h3⟩:=ES r ((n,c)::acc) fun y hy=>h y (Ap _ hy)
   have ec:cellOf env n=pure c:=by unfold cellOf;rw[hc]
   refine⟨cl,?_,fun p hp=>?_,fun y hy hf=>?_,fun p hp=>h3 p (Ap _ hp)⟩
   .simp only[Ct,Bh,ec,pure_bind]
    exact e
   .rcases h1 p hp with q|q
    .rcases Ai.mp q with rfl|q
     .exact .inr hc
     .exact .inl q
    .exact .inr q
   .rcases Ai.mp hy with rfl|hy
    .exact⟨c,h3 _ Ak⟩
    .exact h2 y hy hf
  .obtain⟨cl,e,h1,h2,h3⟩:=ES r acc fun y hy=>h y (Ap _ hy)
   have hb:(k==NameKind.free)=false:=by simpa using hk
   refine⟨cl,?_,h1,fun y hy hf=>?_,h3⟩
   .simp only[hb,Ce,Bs,pure_bind]
    exact e
   .rcases Ai.mp hy with rfl|hy
    .exact absurd hf hk
    .exact h2 y hy hf
theorem HF {α:Type}:∀{l:List (Str×α)} {x:Str} {c:α},(x,c)∈l->∃d,l.lookup x=some d
 | (y,e)::r,x,c,h=>by
  rw[Bi];cases hb:x==y with
  |true=>exact⟨e,rfl⟩
  |false=>
   rcases Ai.mp h with q|q
   .cases q;simp at hb
   .exact HF q
def HG {scope:Scope} {env:Env} (h:∀y∈scope.names,y.2=.free->∃c,env.cells.lookup y.1=some c):
  ∃cl,closureFor scope env=pure cl/\(∀x c,cl.lookup x=some c->env.cells.lookup x=some c)/\∀y∈scope.names,y.2=.free->∃c,cl.lookup y.1=some c:=by
 obtain⟨cl,e,h1,h2,_⟩:=ES (env:=env) scope.names [] h
 refine⟨cl,?_,fun x c q=>?_,fun y hy hf=>?_⟩
 .simp only[closureFor]
  rw[e];rfl
 .rcases h1 _ (Bn q) with z|z
  .cases z
  .exact z
 .obtain⟨c,hc⟩:=h2 y hy hf
  exact HF hc
section
variable {prog:Program} {w:World} {A:Around} {R:Result->Shared->Prop} {s:Shared}
def LK {elt target iter:Expr} {ifs:List Expr} {scope:Scope} {pos:Pos} {it acc:Value} {env:Env} (I:Nat->Shared->Prop)
  (turn:∀n s,I n s->wpAny (model prog w) A (pyNext it) (fun r s₁=>match r with
   |none=>R (.ok .next) s₁
   |some v=>wpAny (model prog w) A (letOwnedTupleGo target it v) (fun _ s₁'=>wpAny (model prog w) A (assign target env v) (fun _ s₂=>
    wpAny (model prog w) A (forIn ifs true fun c r=>if r=true then do let ok <-isTrue c env (eval c env);pure (ForInStep.yield ok) else pure (ForInStep.yield r)) (fun ok s₃=>
     if ok=true then wpAny (model prog w) A (eval elt env) (fun x s₄=>
      wpAny (model prog w) A (call (.builtin "list.append") [acc,x]) (fun _ s₅=> ∃m,m<n/\I m s₅) (fun _ _=>False) s₄) (fun _ _=>False) s₃
     else ∃m,m<n/\I m s₃) (fun _ _=>False) s₂) (fun _ _=>False) s₁') (fun _ _=>False) s₁) (fun _ _=>False) s)
  (n:Nat) (h:I n s):codeAny (model prog w) A (.compLoop (.ListComp elt [⟨target,iter,ifs,0⟩] scope pos) 0 it acc env) R s:=by
 refine codeAny_loop rfl I (fun n s hI=>?_) n h
 show wpAny _ A ((compTurn (.ListComp elt [⟨target,iter,ifs,0⟩] scope pos) 0 it acc env).onRaise (fun x=>do noteFrame x env;theTreesLotGoes x)) _ _ s
 refine wpAny_noted ?_
 rw[compTurn_list]
 refine Ag (wpAny_standAt (Ag (A5 (turn n s hI) (fun r s₁ h₁=>?_) fun _ _ f=>f.elim)))
 cases r with
 |none=>exact Am h₁
 |some v=>
  refine Ag (A5 h₁ (fun _ s₁' h₁'=>?_) fun _ _ f=>f.elim)
  refine Ag (A5 h₁' (fun _ s₂ h₂=>Ag (A5 h₂ (fun ok s₃ h₃=>?_) fun _ _ f=>f.elim)) fun _ _ f=>f.elim)
  cases ok with
  |false=>exact Am ⟨rfl,h₃⟩
  |true=>
   exact Ag (Ag (A5 h₃ (fun x s₄ h₄=>Ag (A5 h₄ (fun _ s₅ h₅=>Am (Am ⟨rfl,h₅⟩)) fun _ _ f=>f.elim)) fun _ _ f=>f.elim))
end
def cst (k:Nat) (fr:List Nat) (σ:St):St:=List.replicate k none++fr.map fun j=>(σ[j]?).join
structure CompScope (X:Cx) (loc free:List Str) (fr:List Nat) (scope:Scope):Prop where
 kind:scope.kind=.function
 cell:∀y∈scope.names,y.2≠ .cell
 names:∀y∈scope.names,y.2=.local->scope.names.lookup y.1=some .local
 frees:∀y∈scope.names,y.2=.free->X.env.kindOf y.1=some .cell\/X.env.kindOf y.1=some .free
 at_:∀(i j:Nat) (x:Str),fr[i]? =some j->free[i]? =some x->X.N[j]? =some x/\scope.names.lookup x=some .free
 len:fr.length=free.length
theorem HH {env:Env}:∀{names:List (Str×NameKind)} {x:Str},(∀y∈names,y.2≠ .cell)->
    ((names.map fun (n,k)=>if (k==NameKind.free && env.scope.kind== .function && env.kindOf n==some .cell) then (n,NameKind.cell) else (n,k)).lookup x=some .cell\/
     (names.map fun (n,k)=>if (k==NameKind.free && env.scope.kind== .function && env.kindOf n==some .cell) then (n,NameKind.cell) else (n,k)).lookup x=some .free)->names.lookup x=some .free
  | [],_,_,h=>by simp at h
  | (n,k)::r,x,hc,h=>by
    have ih:= @HH env r x fun y hy=>hc y (Ap _ hy)
    rw[Ao]at h;rw[Bi];cases hx:x==n with
    |true=>
      have hk:k≠ .cell:=hc (n,k) Ak;dsimp only at h ⊢
      by_cases hb:(k==NameKind.free && env.scope.kind== .function && env.kindOf n==some .cell)=true
      · have:k=.free:=by
          rw[Bo,Bo]at hb;simpa using hb.1.1
        rw[this]
      · rw[Ab hb,Bi,hx]at h
        rcases h with h|h
        · have:k=.cell:=Option.some.inj h
          exact absurd this hk
        · exact h
    |false=>
      dsimp only at h ⊢
      refine ih ?_
      by_cases hb:(k==NameKind.free && env.scope.kind== .function && env.kindOf n==some .cell)=true
      · rw[Aa hb,Bi,hx]at h;exact h
      · rw[Ab hb,Bi,hx]at h;exact h
theorem HI {env:Env}:∀{names:List (Str×NameKind)} {x:Str},names.lookup x=some .free->
    ((names.map fun (n,k)=>if (k==NameKind.free && env.scope.kind== .function && env.kindOf n==some .cell) then (n,NameKind.cell) else (n,k)).lookup x=some .cell\/
     (names.map fun (n,k)=>if (k==NameKind.free && env.scope.kind== .function && env.kindOf n==some .cell) then (n,NameKind.cell) else (n,k)).lookup x=some .free)
  | [],_,h=>by simp at h
  | (n,k)::r,x,h=>by
    have ih:= @HI env r x;rw[Ao];rw[Bi]at h;cases hx:x==n with
    |true=>
      rw[hx]at h;have hk:k=.free:=Option.some.inj h;subst hk;dsimp only
      by_cases hb:(NameKind.free==NameKind.free && env.scope.kind== .function && env.kindOf n==some .cell)=true
      · rw[Aa hb,Bi,hx];exact .inl rfl
      · rw[Ab hb,Bi,hx];exact .inr rfl
    |false=>
      rw[hx]at h;have:=ih h;dsimp only
      by_cases hb:(k==NameKind.free && env.scope.kind== .function && env.kindOf n==some .cell)=true
      · rw[Aa hb,Bi,hx];exact this
      · rw[Ab hb,Bi,hx];exact this
section
variable {X:Cx} {pins:AL} {σ:St} {H:Hp} {s:Shared}
def LL {loc free:List Str} {fr:List Nat} {scope:Scope} {cl:List (Str×Addr)} {h1:Heap} {t1:Nat} {fp:List Addr} (S:CompScope X loc free fr scope) (I:Inv X pins σ H s)
  (hc1:∀x c,cl.lookup x=some c->X.env.cells.lookup x=some c) (hc2:∀y∈scope.names,y.2=.free->∃c,cl.lookup y.1=some c)
  (hns:h1.Ns s.heap.objs.size (fun _=>none)) (hk:∀b o,s.heap.get? b=some o->h1.get? b=some o)
  (hfp:∀b∈fp,FpOk X pins H b) (hfo:∀b∈fp,∃o,s.heap.get? b=some o):
  Inv (yu X (loc++free) scope cl s.heap.objs.size s H fp) [] (cst loc.length fr σ) H {s with heap:=h1,toks:=t1}:=by
 have fpb:∀b∈fp,b<s.heap.objs.size:=fun b hb=>let ⟨o,e⟩:=hfo b hb;Ae e
 refine⟨⟨I.ok.mod,S.kind,I.ok.glob,I.ok.blt,Ac _,fun x y c e1 e2=>I.ok.inj x y c (hc1 _ _ e1) (hc1 _ _ e2),fun x hx=>?_,fun x c f=>(nomatch f),I.ok.hd,I.ok.frames,.inl rfl,fun b hb=>?_,I.bs,A1 I.ok.bsz I.sz,fun b o e hb=>?_,fun b hb z=>?_,I.stack,I.stkFree⟩,
  rfl,I.bare,Un.kept hk,⟨_,hns,fun i x v e1 e2 e3=>?_⟩,fun x c e=>?_,I.hok.fresh (Ac _),fun x c e=>I.freeC x c (hc1 x c e),fun p hp=>absurd (show p∈([]:AL) from hp) (by simp),I.hok.kept hk,?_⟩
 .have q:scope.names.lookup x=some .free:=HH S.cell hx
  exact hc2 (x,.free) (Bn q) rfl
 .exact⟨Ay (fpb b hb),fun x c e=>(hfp b hb).2.2.2.2.1 x c (hc1 x c e)⟩
 .rcases (hfp b hb).2.2.2.1 with z|z
  .exact I.ok.noex b o e z
  .exact absurd (Au (Ae e) (A1 I.ok.bsz z)) (Bm _)
 .rcases Ai.mp (I.stkSub b z) with e|e
  .exact (hfp b hb).2.1 e
  .exact (hfp b hb).2.2.1 e
 .have e1':(loc++free)[i]? =some x:=e1
  unfold cst at e2
  by_cases hi:i<loc.length
  .rw[Az (by simpa using hi),C6]at e2
   rw[Aa hi]at e2;cases e2
  .have hi':loc.length<=i:=Nat.le_of_not_lt hi
   rw[Bg (by simpa using hi'),Bw,A8]at e2
   rw[Bg hi']at e1';cases hj:fr[i-loc.length]? with
   |none=>rw[hj]at e2;cases e2
   |some j=>
    rw[hj]at e2;have e2':(σ[j]?).join=some v:=Option.some.inj e2;obtain⟨n1,n2⟩:=S.at_ _ j x hj e1';have e4:σ[j]? =some (some v):=by
     cases q:σ[j]? with
     |none=>rw[q]at e2';cases e2'
     |some z=>rw[q]at e2';exact congrArg some e2'
    have kf:=S.frees (x,.free) (Bn n2) rfl;obtain⟨m,hn,hl⟩:=I.loc;obtain⟨u,r,l⟩:=hl j x v n1 e4 (kf.elim (fun z=>.inr (.inl z)) fun z=>.inr (.inr z))
    refine⟨u,r,.inr ⟨HI n2,?_⟩⟩
    obtain⟨c,hc⟩:=hc2 (x,.free) (Bn n2) rfl;have hcx:=hc1 x c hc
    rcases l with ⟨hk',_⟩|⟨_,c',hc',hcell⟩
    .rcases kf with z|z<;>(rw[hk']at z;cases z)
    .rw[hcx]at hc'
     cases hc';obtain⟨o,ho,hd⟩:=hcell;exact⟨c,hc,o,hk _ _ ho,hd⟩
 .obtain⟨v,o,ho,hd⟩:=I.cell x c (hc1 x c e)
  exact⟨v,o,hk _ _ ho,hd⟩
 .show (cst loc.length fr σ).length=(loc++free).length
  unfold cst;rw[Ar,Bw,Ad,Ar,S.len]
abbrev LM (J:It) (g:TG) (tc:TT) (te:TE) (σ0:St) (H:Hp) (Q:VK) (D:Addr):Prop:=
 ∃W:Nat->Nat->List V->St->Hp->Prop,(∃m,W 0 m [] σ0 (zl H D (.lst [])))/\∀i m acc σ' H',W i m acc σ' H'->H' D=some (.lst acc)/\
  ((J.stop i H'/\Q (.ref D) H')\/(J.go i H'/\∃N:List V->St->Hp->Prop,(∀acc' σ3 H5,N acc' σ3 H5->∃m',m' < m/\W (i+1) m' acc' σ3 H5)/\∀x H2,J.yld i H' x H2->g x σ' H2 fun σ3 H3=>tc σ3 H3 fun b H4=>
   if b=true then te σ3 H4 fun v H5=>H5 D=some (.lst acc)/\acc.length<sizeLine/\N (acc++[v]) σ3 (zl H5 D (.lst (acc++[v])))
   else N acc σ3 H4))
def Ee (wi:TI) (k:Nat) (fr:List Nat) (g:TG) (tc:TT) (te:TE):TE:=fun σ H Q=>wi σ H fun J H1=> ∀D,H1 D=none->LM J g tc te (cst k fr σ) H1 Q D
def LN:TT:=fun _ H Q=>Q true H
def PTs (X:Cx) (ifs:List Expr) (t:TT):Prop:=
 ∀(pins:AL) (s:Shared) (σ:St) (H:Hp) (Q:Bool->Hp->Prop),Inv X pins σ H s->t σ H Q->
  wpAny (model X.prog X.w) X.A (forIn ifs true fun c r=>if r=true then do let ok <-isTrue c X.env (eval c X.env);pure (ForInStep.yield ok) else pure (ForInStep.yield r)) (TP X pins σ Q) X.xe s
def LO:PTs X [] LN:=fun pins s σ H Q I h=>wpAny_tests_nil ⟨H,I,h⟩
def LP {c:Expr} {t:TT} (h:PT X c t):PTs X [c] t:=fun pins s σ H Q I q=>wpAny_tests_one (h pins s σ H Q I q)
structure CompEnd (X:Cx) (pins:AL) (σ:St) (Q:VK) (D C:Addr) (s6:Shared):Prop where
 inv:∃H5,Inv X pins σ H5 s6/\H5 C=none/\Q (.ref D) H5
 ns:∃m,s6.heap.Ns C m
 neL:C≠X.env.locals
 nfs:C∉X.fs
 new:X.s₀.heap.objs.size<=C
 cel:∀x c,X.env.cells.lookup x=some c->c≠C
 pin:∀p∈X.pn++pins,p.1≠C
def HJ {elt tg iter:Expr} {ifs:List Expr} {loc free:List Str} {fr:List Nat} {scope:Scope} {pos:Pos} {wi:TI} {g:TG} {tc:TT} {te:TE} (hc:X.calm=true) (S:CompScope X loc free fr scope) (hi:PI X tg iter wi)
  (hg:∀cl C s H ex,PG (yu X (loc++free) scope cl C s H ex) tg g) (ht:∀cl C s H ex,PTs (yu X (loc++free) scope cl C s H ex) ifs tc) (he:∀cl C s H ex,PE (yu X (loc++free) scope cl C s H ex) elt te)
  (I:Inv X pins σ H s) {Q:VK} (h:Ee wi loc.length fr g tc te σ H Q) {cl:List (Str×Addr)} (hc1:∀x c,cl.lookup x=some c->X.env.cells.lookup x=some c) (hc2:∀y∈scope.names,y.2=.free->∃c,cl.lookup y.1=some c)
  {RR:Value->Addr->Result->Shared->Prop} (hRR:∀D C s6,CompEnd X pins σ Q D C s6->RR (.ref D) C (.ok .next) s6):
  wpAny (model X.prog X.w) X.A (eval iter X.env) (fun x s1=>wpAny (model X.prog X.w) X.A (pyIter x) (fun it s2=>wpAny (model X.prog X.w) X.A (newList []) (fun acc s3=>
   wpAny (model X.prog X.w) X.A (newFunctionEnv scope X.env.globals cl [] X.env.qual none .none (some X.env)) (fun cenv s4=>
    codeAny (model X.prog X.w) X.A (.compStart (.ListComp elt [⟨tg,iter,ifs,0⟩] scope pos) 0 it acc {cenv with scope:=relabel scope X.env}) (RR acc cenv.locals) s4) X.xe s3) X.xe s2) X.xe s1) X.xe s:=by
 refine zr (hi pins s σ H _ I h) fun v s1 h1=>zr h1 fun itv s2 h2=>?_
 obtain⟨it,fp,tn,J,H2,e,I2,T,st2,f2,q2⟩:=h2;subst e;have hD:H2 s2.heap.objs.size=none:=I2.hok.fresh (Ac _);obtain⟨W,⟨m0,w0⟩,turn⟩:=q2 s2.heap.objs.size hD
 refine Cb ?_
 generalize hs3:({s2 with heap:=s2.heap.push {cls:= .type "list",dict:=none,data:= .seq ([]:List Value).toArray}}:Shared)=s3
 have I3:Inv X pins σ (zl H2 s2.heap.objs.size (.lst [])) s3:=by
  rw[<-hs3];exact I2.lnew (its:=[]) (t':=s2.toks) .nil (By _)
 have k23:∀b o,s2.heap.get? b=some o->s3.heap.get? b=some o:=fun b o q=>by rw[<-hs3];exact Aw _ q
 have f3:∀b∈fp,FpOk X pins (zl H2 s2.heap.objs.size (.lst [])) b:=fun b hb=>by
  obtain⟨o,e,_⟩:=T.obj _ _ st2 b hb;exact⟨by rw[zW (Ay (Ae e))];exact (f2 b hb).1,(f2 b hb).2⟩
 have o3:∀b∈fp,∃o,s3.heap.get? b=some o:=fun b hb=>let ⟨o,e,_⟩:=T.obj _ _ st2 b hb;⟨o,k23 b o e⟩
 have st3:tn 0 s3.heap:=T.keep _ _ _ st2 fun b _ o e=>k23 b o e
 refine wpAny_newFunctionEnv S.cell (by intro y hy;simp at hy) (fun h4 hns hsb=>?_) S.kind
 try dsimp only at hns hsb ⊢
 have k34:∀b o,s3.heap.get? b=some o->h4.get? b=some o:=fun b o q=>hsb.extBut b o (Ay (Ae q)) (Aw _ q)
 have I4:=LL (t1:=s3.toks+([]:List (Str×Value)).length) S I3 hc1 hc2 hns k34 f3 o3;have hgC:=hg cl s3.heap.objs.size s3 (zl H2 s2.heap.objs.size (.lst [])) fp;have htC:=ht cl s3.heap.objs.size s3 (zl H2 s2.heap.objs.size (.lst [])) fp;have heC:=he cl s3.heap.objs.size s3 (zl H2 s2.heap.objs.size (.lst [])) fp;have st4:tn 0 h4:=T.keep _ _ _ st3 fun b _ o e=>k34 b o e
 generalize hY:yu X (loc++free) scope cl s3.heap.objs.size s3 (zl H2 s2.heap.objs.size (.lst [])) fp=Y at I4 hgC htC heC;have fY:∀{H':Hp},(∀b∈fp,H' b=none)->∀b∈fp,FpOk Y [] H' b:=fun hn b hb=>by
  subst hY
  refine⟨hn b hb,?_,fun z=>?_,.inl hb,fun x c e=>(f3 b hb).2.2.2.2.1 x c (hc1 x c e),fun p hp=>absurd (show p∈([]:AL) from hp) (by simp)⟩
  .obtain⟨o,e⟩:=o3 b hb
   exact Ay (Ae e)
  .rcases Ai.mp (I3.stkSub b z) with e|e
   .exact (f3 b hb).2.1 e
   .exact (f3 b hb).2.2.1 e
 have hYp:Y.prog=X.prog:=by rw[<-hY];rfl
 have hYw:Y.w=X.w:=by rw[<-hY];rfl
 have hYK:Y.K=X.K:=by rw[<-hY];rfl
 have hYA:Y.A=X.A:=by rw[<-hY];rfl
 have hYe:Y.env=compEnvC scope cl s3.heap.objs.size X.env:=by rw[<-hY];rfl
 have hYx:Y.xe=fun _ _=>False:=by rw[<-hY];rfl
 have hYc:Y.calm=true:=by rw[<-hY];exact hc
 have loop:codeAny (model X.prog X.w) X.A (.compLoop (.ListComp elt [⟨tg,iter,ifs,0⟩] scope pos) 0 (.ref it) (.ref s2.heap.objs.size) (compEnvC scope cl s3.heap.objs.size X.env))
   (RR (.ref s2.heap.objs.size) s3.heap.objs.size) {s3 with heap:=h4,toks:=s3.toks+([]:List (Str×Value)).length}:=by
  refine LK (fun n s'=> ∃i acc σ' H',Inv Y [] σ' H' s'/\tn i s'.heap/\(∀b∈fp,H' b=none)/\W i n acc σ' H') ?_ m0 ⟨0,[],_,_,I4,st4,fun b hb=>(f3 b hb).1,w0⟩
  rintro n s5 ⟨i,acc,σ5,H5,I5,st5,fr5,w5⟩;obtain⟨hacc,turn5⟩:=turn i n acc σ5 H5 w5
  rcases turn5 with ⟨stop,qn⟩|⟨go,N,hN,step⟩
  .have d:=T.done Y hYp hYw hYK hYc i [] s5 σ5 H5 (fun _ _=>False) I5 (fY fr5) st5 stop
   rw[hYA]at d
   refine zr d fun r s6 ⟨hr,I6⟩=>?_
   subst hr;obtain⟨m,hn,_⟩:=id I6.loc;rw[hYe]at hn;have fC:H5 s3.heap.objs.size=none:=by
    have:=I6.free;rw[hYe]at this;exact this
   have hok6:HOk X.prog X.w H5 s6.heap:=by
    have:=I6.hok;rw[hYp,hYw]at this;exact this
   have un6:Un (yg X.stack) fp (zl H2 s2.heap.objs.size (.lst [])) H5 s3.heap s6.heap:=by
    have:=I6.base;subst hY;exact this
   have os6:s6.os=s3.os:=by
    have:=I6.os;subst hY;exact this
   have IX:Inv X pins σ H5 s6:=I3.call' (ch:=fp) os6 un6 hok6 I6.bare fun b hb=>⟨(f3 b hb).2.2.2.1,(f3 b hb).2.1,(f3 b hb).2.2.2.2.1,(f3 b hb).2.2.2.2.2⟩
   refine hRR _ _ s6 ⟨⟨H5,IX,fC,qn⟩,⟨m,hn⟩,Nat.ne_of_gt I3.lt,I3.nofs (Ac _),I3.sz,fun x c e z=>?_,fun p hp z=>?_⟩
   .obtain⟨v,q⟩:=I3.cell x c e
    exact absurd q.lt (by rw[z];exact Bm _)
   .exact absurd (Ae (I3.pin p hp).1) (by rw[z];exact Bm _)
  .have d:=T.item Y hYp hYw hYK hYc i [] s5 σ5 H5 (fun _ _=>False) I5 (fY fr5) st5 go
   rw[hYA]at d
   refine zr d fun r s6 ⟨u,hr,h6⟩=>?_
   subst hr
   refine zr h6 fun _ s7 ⟨x,H7,I7,r7,y7,st7,fr7⟩=>?_
   have I7':=I7.pinned (fY fr7) (T.obj _ _ st7);have g7:=hgC _ s7 σ5 H7 x u _ I7' r7 (step x H7 y7);rw[hYp,hYw,hYA,hYe,hYx]at g7
   refine zr g7 fun _ s8 ⟨σ8,H8,I8,q8⟩=>?_
   have t8:=htC _ s8 σ8 H8 _ I8 q8;rw[hYp,hYw,hYA,hYe,hYx]at t8;have back:∀{σ9:St} {H9:Hp} {s9:Shared} {acc':List V},Inv Y ([]++Do fp s7.heap) σ9 H9 s9->N acc' σ9 H9->∃m,m<n/\∃i acc σ' H',Inv Y [] σ' H' s9/\tn i s9.heap/\(∀b∈fp,H' b=none)/\W i m acc σ' H':=fun {σ9 H9 s9 acc'} I9 w9=>by
    obtain⟨m',hm,w9⟩:=hN _ _ _ w9
    refine⟨m',hm,i+1,acc',σ9,H9,I9.unpinned,T.keep _ _ _ st7 fun b hb o e=>(I9.pin (b,o) (A7 _ (A7 _ (DT hb e)))).1,fun b hb=>?_,w9⟩
    obtain⟨o,e,d⟩:=T.obj _ _ st7 b hb;exact (I9.pin (b,o) (A7 _ (A7 _ (DT hb e)))).2.1
   refine zr t8 fun ok s9 ⟨H9,I9,q9⟩=>?_
   cases ok with
   |false=>
    rw[Ab (by simp)]at q9 ⊢
    exact back I9 q9
   |true=>
    rw[Aa rfl]at q9 ⊢;have e9:=heC _ s9 σ8 H9 _ I9 q9;rw[hYp,hYw,hYA,hYe,hYx]at e9
    refine zr e9 fun y s10 ⟨z,H10,I10,r10,hacc10,hlen,w10⟩=>?_
    have a10:=AK (X:=Y) _ s10 σ8 H10 (.ref s2.heap.objs.size) [z] (.ref s2.heap.objs.size) [y] (fun _ H'=>N (acc++[z]) σ8 H') I10 rfl (.cons r10 .nil) ⟨_,_,z,rfl,rfl,hacc10,hlen,w10⟩
    rw[hYp,hYw,hYA,hYx]at a10;exact zr a10 fun _ s11 ⟨_,H11,I11,_,w11⟩=>back I11 w11
 exact codeAny_compStart_list loop (T.self X.A 0 _ _ _ st4 loop)
def LQ {elt tg iter:Expr} {ifs:List Expr} {loc free:List Str} {fr:List Nat} {scope:Scope} {pos:Pos} {wi:TI} {g:TG} {tc:TT} {te:TE} (hc:X.calm=true) (S:CompScope X loc free fr scope) (hi:PI X tg iter wi)
  (hg:∀cl C s H ex,PG (yu X (loc++free) scope cl C s H ex) tg g) (ht:∀cl C s H ex,PTs (yu X (loc++free) scope cl C s H ex) ifs tc) (he:∀cl C s H ex,PE (yu X (loc++free) scope cl C s H ex) elt te)
  (hs:∀x,foldedSetIterable iter X.env x=pure x:=by intro _;rfl):PE X (.ListComp elt [⟨tg,iter,ifs,0⟩] scope pos) (Ee wi loc.length fr g tc te):=by
 intro pins s σ H Q I h;rw[eval_ListComp];obtain⟨cl,hcl,hc1,hc2⟩:=HG (scope:=scope) (env:=X.env) fun y hy hf=>I.ok.has y.1 (S.frees y hy hf)
 refine wpAny_comprehension_free (use:=none) rfl hs hcl S.kind S.names ?_
 refine HJ (RR:=fun acc C=>compPost (model X.prog X.w) X.A X.xe none (EP X pins σ Q) acc C) hc S hi hg ht he I h hc1 hc2 fun D C s6 ce=>?_
 obtain⟨H5,IX,fC,q⟩:=ce.inv;obtain⟨m,hn⟩:=ce.ns;exact⟨m,hn,fun h7 hs7=>⟨.ref D,H5,IX.turned (t':=s6.toks) (fun b o hb e=>hs7.extBut b o hb e) fC ce.neL (.inr ce.new) ce.cel ce.pin,rfl,q⟩⟩
def HK {i:Nat} {y:Str} {py:Pos} {spos:Pos} {elt tg iter:Expr} {ifs:List Expr} {loc free:List Str} {fr:List Nat} {scope:Scope} {pos:Pos} {wi:TI} {g:TG} {tc:TT} {te:TE} (hN:X.N.Nodup) (hi':X.N[i]? =some y) (hx:X.env.scope.names.lookup y=some .local)
  (hc:X.calm=true) (S:CompScope X loc free fr scope) (hi:PI X tg iter wi)
  (hg:∀cl C s H ex,PG (yu X (loc++free) scope cl C s H ex) tg g) (ht:∀cl C s H ex,PTs (yu X (loc++free) scope cl C s H ex) ifs tc) (he:∀cl C s H ex,PE (yu X (loc++free) scope cl C s H ex) elt te)
  (hs:∀x,foldedSetIterable iter X.env x=pure x:=by intro _;rfl)
  (hsw:swapsWith (.ListComp elt [⟨tg,iter,ifs,0⟩] scope pos) (some (.Name y py)) spos.line X.env=pure true:=by rfl):
  PS X (.Assign [.Name y py] (.ListComp elt [⟨tg,iter,ifs,0⟩] scope pos) spos) (tAsg (Ee wi loc.length fr g tc te) (Dm i)):=by
 intro pins s σ H D I h;obtain⟨cl,hcl,hc1,hc2⟩:=HG (scope:=scope) (env:=X.env) fun y hy hf=>I.ok.has y.1 (S.frees y hy hf)
 rw[exec_Assign_Name_used _ _ _ _ hsw]
 refine Ag (wpAny_standAt (Ag ?_))
 show wpAny _ X.A (do let _ <-comprehension (.ListComp elt [⟨tg,iter,ifs,0⟩] scope pos) scope X.env _ (newList []) false (eval iter X.env) (some (assign (.Name y py) X.env))) _ _ s
 refine Ag (A5 (wpAny_comprehension_free (use:=some (assign (.Name y py) X.env)) (Q:=fun _ s'=>SP X pins D .next s') rfl hs hcl S.kind S.names ?_) (fun _ s' hq=>Am (Am hq)) fun _ _ e=>e)
 refine HJ (RR:=fun acc C=>compPost (model X.prog X.w) X.A X.xe (some (assign (.Name y py) X.env)) (fun _ s'=>SP X pins D .next s') acc C) hc S hi hg ht he I h hc1 hc2 fun L C s6 ce=>?_
 obtain⟨H5,IX,fC,q⟩:=ce.inv;obtain⟨m,oC,es,ep,ho,hd,hk⟩:=ce.ns;show wpAny _ X.A (assign (.Name y py) X.env (.ref L)) _ _ s6;have IP:Inv X (pins++[(C,oC)]) σ H5 s6:=IX.pins_of fun p hp=>(Aq.mp hp).elim (fun z=>IX.pin p (A7 _ z)) fun z=>by
  rw[A2.mp z];exact⟨ho,fC,ce.neL,ce.nfs,fun v e=>by rw[hd]at e;cases e⟩
 refine wpAny_assign_Name (EJ IP hN hi' (.inl hx) (v:= .ref L) rfl (fun s' I'=>?_) (.inr hx))
 have pc:=I'.pin (C,oC) (A7 _ (A7 _ Ak))
 refine⟨m,⟨oC,es,ep,pc.1,hd,hk⟩,fun h7 hs7=>?_⟩
 exact⟨_,H5,I'.unpinned.turned (t':=s'.toks) (fun b o hb e=>hs7.extBut b o hb e) fC ce.neL (.inr ce.new) ce.cel ce.pin,q⟩
end
section
variable {X:Cx}
def LR:ym X (.builtin "isinstance") (fun xs H Q=> ∃x T t b,xs=[x,.ty T]/\TyOf X.K H x t/\PySem.W.kitOne X.K t (.type T)=some b/\Q (.bl b) H):=by
 intro pins s σ H xs us Q I r h;obtain⟨x,T,t,b,rfl,ty,e,q⟩:=h;obtain⟨u,v,rfl,rx,ry⟩:=EN r;cases ry;exact KN I rx ty e fun tk=>⟨.bl b,H,I.tok tk,rfl,q⟩
def HL {A:Around} (h:A.handled=none):A.in1.handled=none:=h
def LS (hc:X.calm=true):ym X (.builtin "all") (fun xs H Q=> ∃(p:Addr) (bs:List Bool),xs=[.ref p]/\SqL X.K H p (bs.map V.bl)/\Q (.bl (bs.all id)) H):=by
 intro pins s σ H xs us Q I r h;obtain⟨p,bs,rfl,hq,q⟩:=h;obtain⟨u,rfl,rx⟩:=qh r;cases rx;obtain⟨its,rv,pl,hz⟩:=I.list hq
 refine call_all_walk (Cp pl.isList ?_)
 have hp:p<s.heap.objs.size:=by obtain⟨o,n,e,_⟩:=pl;exact Ae e
 have hlen:its.length=bs.length:=by rw[<-rv.length,Ad]
 refine⟨s.heap.objs.size,_,_,_,_,_,fun i=>bs.getD i true,rfl,Walks.list (HL (I.ok.hd hc)) _ p (Ay hp) its.toArray,⟨⟨_,A6 _ rfl,rfl,rfl⟩,pl.isList.push _⟩,?_,fun h' tk k=>?_⟩
 .intro i v s' Q' E' hv hQ
  have hv':its[i]? =some v:=by simpa using hv
  have hi:i<bs.length:=by rw[<-hlen];exact (Av.mp hv').1
  obtain⟨u,hu,ru⟩:=rv.get (i:=i) (x:= .bl bs[i]) (by simp[hi])
  rw[hv']at hu;cases hu;cases ru
  refine Bf ?_
  have e:bs.getD i true=bs[i]:=by simp[hi]
  dsimp only at hQ;rw[e]at hQ;exact hQ
 .refine⟨.bl _,H,I.kept (t':=tk) (fun b o e=>k b o (by simpa using Ay (Ae e)) (Aw _ e)),?_,q⟩
  show Value.bool _=Value.bool _
  congr 1
  rw[Af,hlen];have:∀(bs:List Bool) (n:Nat),n=bs.length->(List.range n).all (fun i=>bs.getD i true)=bs.all id:=by
   intro bs n hn;rw[Bool.eq_iff_iff,Cf,Cf]
   constructor
   .intro h x hx
    obtain⟨i,hi,rfl⟩:=List.mem_iff_getElem.mp hx;have:=h i (Br.mpr (by lia))
    simpa[hi] using this
   .intro h i hi
    have hi':i<bs.length:=by have:=Br.mp hi;lia
    have:=h bs[i] (List.getElem_mem hi');simpa[hi'] using this
  exact this bs _ rfl
def LU (hc:X.calm=true):ym X (.builtin "any") (fun xs H Q=> ∃(p:Addr) (bs:List Bool),xs=[.ref p]/\SqL X.K H p (bs.map V.bl)/\Q (.bl (bs.any id)) H):=by
 intro pins s σ H xs us Q I r h;obtain⟨p,bs,rfl,hq,q⟩:=h;obtain⟨u,rfl,rx⟩:=qh r;cases rx;obtain⟨its,rv,pl,hz⟩:=I.list hq
 refine call_any_walk (Cp pl.isList ?_)
 have hp:p<s.heap.objs.size:=by obtain⟨o,n,e,_⟩:=pl;exact Ae e
 have hlen:its.length=bs.length:=by rw[<-rv.length,Ad]
 refine⟨s.heap.objs.size,_,_,_,_,_,fun i=>bs.getD i false,rfl,Walks.list (HL (I.ok.hd hc)) _ p (Ay hp) its.toArray,⟨⟨_,A6 _ rfl,rfl,rfl⟩,pl.isList.push _⟩,?_,fun h' tk k=>?_⟩
 .intro i v s' Q' E' hv hQ
  have hv':its[i]? =some v:=by simpa using hv
  have hi:i<bs.length:=by rw[<-hlen];exact (Av.mp hv').1
  obtain⟨u,hu,ru⟩:=rv.get (i:=i) (x:= .bl bs[i]) (by simp[hi])
  rw[hv']at hu;cases hu;cases ru
  refine Bf ?_
  have e:bs.getD i false=bs[i]:=by simp[hi]
  dsimp only at hQ;rw[e]at hQ;exact hQ
 .refine⟨.bl _,H,I.kept (t':=tk) (fun b o e=>k b o (by simpa using Ay (Ae e)) (Aw _ e)),?_,q⟩
  show Value.bool _=Value.bool _
  congr 1
  rw[Af,hlen];have:∀(bs:List Bool) (n:Nat),n=bs.length->(List.range n).any (fun i=>bs.getD i false)=bs.any id:=by
   intro bs n hn;rw[Bool.eq_iff_iff,List.any_eq_true,List.any_eq_true]
   constructor
   .rintro⟨i,hi,h⟩
    have hi':i<bs.length:=by have:=Br.mp hi;lia
    exact⟨bs[i],List.getElem_mem hi',by simpa[hi'] using h⟩
   .rintro⟨x,hx,h⟩
    obtain⟨i,hi,rfl⟩:=List.mem_iff_getElem.mp hx;exact⟨i,Br.mpr (by lia),by simpa[hi] using h⟩
  exact this bs _ rfl
end
end L2
namespace L2
open PySem PySem.W PySem.Spec PyProof.Rows
def HM (sc:Scope) (N loc free:List Str) (fr:List Nat) (scope:Scope):Bool:=
 decide (scope.kind=.function) && scope.names.all (fun y=>decide (y.2≠ .cell)) && scope.names.all (fun y=>decide (y.2≠ .local) || decide (scope.names.lookup y.1=some .local)) &&
 scope.names.all (fun y=>decide (y.2≠ .free) || (decide (sc.names.lookup y.1=some .cell) || decide (sc.names.lookup y.1=some .free))) && decide (fr.length=free.length) &&
 (List.range fr.length).all fun i=>match fr[i]?,free[i]? with
  |some j,some x=>decide (N[j]? =some x) && decide (scope.names.lookup x=some .free)
  |_,_=>true
def yZ {X:Cx} {sc:Scope} {N loc free:List Str} {fr:List Nat} {scope:Scope} (e1:X.env.scope=sc) (e2:X.N=N) (h:HM sc N loc free fr scope=true):CompScope X loc free fr scope:=by
 unfold HM at h;simp only[Bo,Cf,Bool.or_eq_true,B0]at h;obtain⟨⟨⟨⟨⟨h1,h2⟩,h3⟩,h4⟩,h5⟩,h6⟩:=h
 refine⟨h1,fun y hy=>h2 y hy,fun y hy hl=>(h3 y hy).elim (fun z=>absurd hl z) id,fun y hy hf=>?_,fun i j x a b=>?_,h5⟩
 .show X.env.scope.names.lookup y.1=some .cell\/X.env.scope.names.lookup y.1=some .free
  rw[e1];exact (h4 y hy).elim (fun z=>absurd hf z) id
 .have hi:i<fr.length:=(Av.mp a).1
  have:=h6 i (Br.mpr hi);rw[a,b]at this;simp only[Bo,B0]at this;rw[e2];exact this
def pgc {X:Cx} {x:Str} {pos:Pos} (i:Nat) (N:List Str) (nd:N.Nodup) (eN:X.N=N) (hi:N[i]? =some x) (hx:Loc X.env.scope x) (hl:X.env.scope.names.lookup x=some .local):PG X (.Name x pos) (Dm i):=
 GZ (eN ▸ nd) (by rw[eN];exact hi) hx (.inr hl)
structure Dfn (K:FG) (mg:Str->Option Value) (x:Str) (st:Stmt) (ps:List Str) (f:Addr) (fd:FuncData):Prop where
 F:Fun K x x st f fd
 b:Binds K fd ps []
 g:mg x=some (.ref f)
section
variable {X:Cx} {K:FG}
def pgT {pos:Pos} {es:List Expr} {k:Nat} {t:qe} (n:Nat) (hK:X.K=K) (hc:X.calm=true) (h:y4 X es t) (hn:(assignEach es X.env).length=n:=by rfl) (hst:(assignEach es X.env).findIdx? (·.1)=none:=by rfl):PG X (.Tuple es k pos) (gTup K n t):=by
 subst hK;exact EK hc h hn hst
end
end L2
namespace L2
open PySem PySem.Spec PyProof.Rows
section
variable {X:Cx} {pos:Pos}
def gLst (K:FG) (n:Nat) (t:qe):TG:=fun v σ H Q=> ∃a xs,v=.ref a/\SqL K H a xs/\xs.length=n/\t xs σ H Q
def HN {es:List Expr} {k:Nat} {t:qe} {n:Nat} (hc:X.calm=true) (h:y4 X es t)
  (hn:(assignEach es X.env).length=n:=by rfl) (hst:(assignEach es X.env).findIdx? (·.1)=none:=by rfl):PG X (.Tuple es k pos) (gLst X.K n t):=by
 intro pins s σ H v u Q I r hw;obtain⟨a,xs,e1,hq,hl,hw⟩:=hw;subst e1;cases r;obtain⟨its,rv,pl,hz⟩:=I.list hq;rw[assign_Tuple]
 refine Ag (wpAny_standAt ?_)
 unfold unpack;rw[hst,hn,show n=its.toArray.size by simp[<-hl,rv.length]]
 refine Ag (wpAny_holding (PySem.W.kun_itemsOf (I.ok.hd hc) pl.isList fun h' hx=>?_))
 have I1:Inv X pins σ H {s with heap:=h'}:=I.kept (t':=s.toks) fun b o e=>hx b o (Ay (Ae e)) e
 exact h pins _ σ H xs _ Q I1 (by simpa using rv) hw
end
def Its (z:Str):It:=⟨fun i _=>i<z.length,fun i H x H'=>H'=H/\∃c,z.cps[i]? =some c/\x=.str ⟨#[c]⟩,fun i _=>z.length<=i⟩
def LV {P:Program} {w:World} {K:FG} {tg:Expr} (it:Addr) (z:Str) (t:Tok):Turn P w K tg (Its z) [it] it (fun i h=>h.IsStrIter it "str_ascii_iterator" z t i) where
 mem:=by simp
 obj:=fun i h st b hb=>by
  have e:b=it:=by simpa using hb
  subst e;obtain⟨o,e,c,d⟩:=st;exact⟨o,e,fun v y=>by rw[d]at y;cases y⟩
 keep:=fun i h h' st k=>by
  obtain⟨o,e,r⟩:=st;exact⟨o,k it (by simp) o e,r⟩
 item:=by
  intro X hP hw hK hc i pins s σ H E I hf st hg;subst hP hw hK;have hi:i<z.cps.size:=hg;obtain⟨f0,f1,f2,f3,f4,f5⟩:=hf it (by simp)
  refine wpAny_pyNext_ascii_item st (c:=z.cps[i]) (by simp[hi]) fun h' st' sb=>?_
  have I1:Inv X pins σ H {s with heap:=h',toks:=s.toks+1}:=I.turned (fun b o hb e=>(sb.2 b hb).trans e) f0 f1 f3 f4 f5
  obtain⟨o,e,c,d⟩:=id st';exact⟨_,rfl,Dn (s:={s with heap:=h',toks:=s.toks+1}) e c d (by decide) ⟨.str ⟨#[z.cps[i]]⟩,H,I1,⟨_,rfl⟩,⟨rfl,_,by simp[hi],rfl⟩,st',fun b hb=>(hf b hb).1⟩⟩
 done:=by
  intro X hP hw hK hc i pins s σ H E I hf st hg;subst hP hw hK;have hi:z.cps.size<=i:=hg;obtain⟨f0,f1,f2,f3,f4,f5⟩:=hf it (by simp)
  exact wpAny_pyNext_ascii_end (I.ok.hd hc) st (by simp[hi]) fun h' eb=>⟨rfl,I.turned (t':=s.toks) (fun b o hb e=>eb b o hb e) f0 f1 f3 f4 f5⟩
 self:=fun _ _ _ _ _ st h=>wpAny_pyIter_striter_ascii st h
def LW {P:Program} {w:World} {K:FG} {tg:Expr} (it:Addr) (z:Str) (t:Tok):Turn P w K tg (Its z) [it] it (fun i h=>h.IsStrIter it "str_iterator" z t i) where
 mem:=by simp
 obj:=fun i h st b hb=>by
  have e:b=it:=by simpa using hb
  subst e;obtain⟨o,e,c,d⟩:=st;exact⟨o,e,fun v y=>by rw[d]at y;cases y⟩
 keep:=fun i h h' st k=>by
  obtain⟨o,e,r⟩:=st;exact⟨o,k it (by simp) o e,r⟩
 item:=by
  intro X hP hw hK hc i pins s σ H E I hf st hg;subst hP hw hK;have hi:i<z.cps.size:=hg;obtain⟨f0,f1,f2,f3,f4,f5⟩:=hf it (by simp)
  refine wpAny_pyNext_wide_item st (c:=z.cps[i]) (by simp[hi]) fun h' st' sb=>?_
  have I1:Inv X pins σ H {s with heap:=h',toks:=s.toks+1}:=I.turned (fun b o hb e=>(sb.2 b hb).trans e) f0 f1 f3 f4 f5
  obtain⟨o,e,c,d⟩:=id st';exact⟨_,rfl,Dn (s:={s with heap:=h',toks:=s.toks+1}) e c d (by decide) ⟨.str ⟨#[z.cps[i]]⟩,H,I1,⟨_,rfl⟩,⟨rfl,_,by simp[hi],rfl⟩,st',fun b hb=>(hf b hb).1⟩⟩
 done:=by
  intro X hP hw hK hc i pins s σ H E I hf st hg;subst hP hw hK;have hi:z.cps.size<=i:=hg;obtain⟨f0,f1,f2,f3,f4,f5⟩:=hf it (by simp)
  exact wpAny_pyNext_wide_end (I.ok.hd hc) st (by simp[hi]) fun h' eb=>⟨rfl,I.turned (t':=s.toks) (fun b o hb e=>eb b o hb e) f0 f1 f3 f4 f5⟩
 self:=fun _ _ _ _ _ st h=>wpAny_pyIter_striter_wide st h
section
variable {X:Cx} {tg:Expr}
def iStr (tl:TE):TI:=fun σ H R=>tl σ H fun x H1=> ∃z,x=.str z/\R (Its z) H1
def LX {l:Expr} {tl:TE} (hl:PE X l tl):PI X tg l (iStr tl):=by
 intro pins s σ H R I h
 refine zr (hl pins s σ H _ I h) fun v s1 ⟨x,H1,I1,r1,q1⟩=>?_
 obtain⟨z,e,q⟩:=q1;subst e;obtain⟨t,rfl⟩:=r1;have fp:∀b∈[s1.heap.objs.size],FpOk X pins H1 b:=fun b hb=>by
  have e:b=s1.heap.objs.size:=by simpa using hb
  subst e;exact I1.fpOk (Ac _) (I1.hok.fresh (Ac _))
 cases ha:z.cps.all (· < 128)
 .exact wpAny_pyIter_wide ha ⟨s1.heap.objs.size,[s1.heap.objs.size],_,_,H1,rfl,I1.kept (t':=s1.toks) fun b o e=>Aw _ e,LW _ z t,⟨_,A6 _ rfl,rfl,rfl⟩,fp,q⟩
 .exact wpAny_pyIter_ascii ha ⟨s1.heap.objs.size,[s1.heap.objs.size],_,_,H1,rfl,I1.kept (t':=s1.toks) fun b o e=>Aw _ e,LV _ z t,⟨_,A6 _ rfl,rfl,rfl⟩,fp,q⟩
def rSlS:V->Option Int->Option Int->Hp->VK->Prop:=fun x lo hi H Q=> ∃z,x=.str z/\z.length<=sizeLine/\Q (.str (Txt.slice z lo hi)) H
def HP {v:Value} {o:Option Int} (h:IsPart v o):∃p:Option (Int×Tok),v=partValue p/\p.map (·.1)=o:=by
 cases h with
 |none=>exact⟨none,rfl,rfl⟩
 |int i t=>exact⟨some (i,t),rfl,rfl⟩
def LY:SlR X rSlS:=by
 intro pins s σ H x v vl vu lo hi sl Q I rx hs pl pu h;obtain⟨z,rfl,hz,q⟩:=h;obtain⟨t,rfl⟩:=rx;obtain⟨p,rfl,rfl⟩:=HP pl;obtain⟨p',rfl,rfl⟩:=HP pu
 refine⟨"str",_,slot_str_getitem.lookup,typeIs_str _ _ _,?_⟩
 refine wpAny_getItem_str_slice (l:=p) (u:=p') (st:=none) hs rfl ?_
 exact post_val_or_str ⟨A1 (Txt.slice_le z _ _) hz,fun t' k=>⟨.str (Txt.slice z (p.map (·.1)) (p'.map (·.1))),H,I.tok k,⟨t',rfl⟩,q⟩⟩
end
def LZ (z:Str) (c:Nat):(!(Builtin.Str.occurrences z ⟨#[c]⟩ 0 z.length 1).isEmpty)=decide (c∈z.cps.toList):=StrLaws.found_one z c
end L2
namespace L3
open PySem L2
inductive V3 where
 |non|bl (b:Bool)|int (i:Int)|str (x:Str)|ty (n:String)
 |tup (xs:List V3)|lst (xs:List V3)|scr (ns:List Int)
 |dK (kvs:List (yA×V3))|dT (kvs:List (MK×V3))
 |obj (c:Str) (fs:List (Str×V3))|cls (c:Str)|fn (n:Str) (env:List V3)
 |loc (n:Nat)
inductive C3 where
 |lst (xs:List V3)|dK (kvs:List (yA×V3))|dT (kvs:List (MK×V3))|ins (c:Str) (fs:List (Str×V3))|dead
inductive Vl where
 |v (x:V3)|m (c:C3)
structure X3 where
 c:Str
 nm:Option V3
abbrev S3:=List (Option Vl)
abbrev H3:=List C3
inductive Res (α:Type) where
 |ok (r:α) (h:H3)|ex (x:X3) (h:H3)|no
abbrev E3:=S3->H3->Res Vl
def C3.fz:C3->Option V3
 |.lst xs=>some (.lst xs)
 |.dK kvs=>some (.dK kvs)
 |.dT kvs=>some (.dT kvs)
 |.ins c fs=>some (.obj c fs)
 |.dead=>none
def Vl.fz:Vl->Option V3
 |.v x=>some x
 |.m c=>c.fz
def Res.bind {α β:Type} (r:Res α) (k:α->H3->Res β):Res β:=match r with
 |.ok r h=>k r h
 |.ex x h=>.ex x h
 |.no=>.no
structure Kx where
 K:FG
 cl:Str->Option Addr
def KnL (K:FG) (a:Addr) (ns:List Int):Prop:=
 ∃(o:Obj) (its:Array Value) (n:Nat),K.lookup a=some o/\o.cls=.type "list" /\o.dict=none/\o.data=.seq its n/\its.size<=sizeLine/\Vals (ns.map V.int) its.toList
mutual
inductive Rep (κ:Kx) (β:AO) (O:Addr->Prop) (H:Hp):V3->V->Prop
 |non:Rep κ β O H .non .non
 |bl (b:Bool):Rep κ β O H (.bl b) (.bl b)
 |int (i:Int):Rep κ β O H (.int i) (.int i)
 |str (x:Str):Rep κ β O H (.str x) (.str x)
 |ty (n:String):Rep κ β O H (.ty n) (.ty n)
 |tup {xs:List V3} {ys:List V} {a:Addr}:H a=some (.tup ys)->some a∉β->¬O a->Reps κ β O H xs ys->Rep κ β O H (.tup xs) (.ref a)
 |lst {xs:List V3} {ys:List V} {a:Addr}:H a=some (.lst ys)->some a∉β->¬O a->Reps κ β O H xs ys->Rep κ β O H (.lst xs) (.ref a)
 |scr {ns:List Int} {a:Addr} {o:Obj}:H a=some (.frz o (.lst (ns.map V.int)))->some a∉β->¬O a->Rep κ β O H (.scr ns) (.ref a)
 |scrK {ns:List Int} {a:Addr}:KnL κ.K a ns->Rep κ β O H (.scr ns) (.ref a)
 |dK {kvs:List (yA×V3)} {ws:List (yA×V)} {a:Addr}:H a=some (.dK ws)->some a∉β->¬O a->RepP κ β O H kvs ws->Rep κ β O H (.dK kvs) (.ref a)
 |dT {kvs:List (MK×V3)} {ws:List (MK×V)} {a:Addr}:H a=some (.dT ws)->some a∉β->¬O a->RepP κ β O H kvs ws->Rep κ β O H (.dT kvs) (.ref a)
 |obj {c:Str} {C:Addr} {fs:List (Str×V3)} {gs:List (Str×V)} {a dx:Addr}:κ.cl c=some C->H a=some (.ins C dx gs)->some a∉β->¬O a->RepP κ β O H fs gs->Rep κ β O H (.obj c fs) (.ref a)
 |cls {c:Str} {C:Addr}:κ.cl c=some C->Rep κ β O H (.cls c) (.ref C)
 |loc {n:Nat} {v:V}:n<β.length->(∀a,β[n]? =some (some a)->v=.ref a)->Rep κ β O H (.loc n) v
inductive Reps (κ:Kx) (β:AO) (O:Addr->Prop) (H:Hp):List V3->List V->Prop
 |nil:Reps κ β O H [] []
 |cons {x:V3} {y:V} {xs:List V3} {ys:List V}:Rep κ β O H x y->Reps κ β O H xs ys->Reps κ β O H (x::xs) (y::ys)
inductive RepP (κ:Kx) (β:AO) (O:Addr->Prop) (H:Hp):{α:Type}->List (α×V3)->List (α×V)->Prop
 |nil {α:Type}:RepP κ β O H (α:=α) [] []
 |cons {α:Type} {k:α} {x:V3} {y:V} {xs:List (α×V3)} {ys:List (α×V)}:Rep κ β O H x y->RepP κ β O H xs ys->RepP κ β O H ((k,x)::xs) ((k,y)::ys)
end
structure Ext (M:Addr->Prop) (β:AO) (H:Hp) (β':AO) (H':Hp):Prop where
 keep:∀a o,H a=some o->some a∉β->¬M a->H' a=some o/\some a∉β'
 len:β.length<=β'.length
 bet:∀i a,i<β.length->β'[i]? =some (some a)->β[i]? =some (some a)
 there:∀a o,H a=some o->∃o',H' a=some o'
 nwb:∀(i:Nat) a,β.length<=i->β'[i]? =some (some a)->H a=none
def nwb0 {β:AO} {H:Hp}:∀(i:Nat) a,β.length<=i->β[i]? =some (some a)->H a=none:=fun i a h e=>by
 have:=(Av.mp e).1;lia
abbrev No:Addr->Prop:=fun _=>False
def Ext.refl {M:Addr->Prop} {β:AO} {H:Hp}:Ext M β H β H:=⟨fun _ _ h n _=>⟨h,n⟩,Ac _,fun _ _ _ h=>h,fun _ o h=>⟨o,h⟩,nwb0⟩
def HQ {β β1 β2:AO} {H H1:Hp} (t:∀a o,H a=some o->∃o',H1 a=some o') (bet:∀i a,i<β1.length->β2[i]? =some (some a)->β1[i]? =some (some a)) (n1:∀(i:Nat) a,β.length<=i->β1[i]? =some (some a)->H a=none)
  (n2:∀(i:Nat) a,β1.length<=i->β2[i]? =some (some a)->H1 a=none):∀(i:Nat) a,β.length<=i->β2[i]? =some (some a)->H a=none:=fun i a hi h=>by
 by_cases h1:i<β1.length
 .exact n1 i a hi (bet i a h1 h)
 .cases w:H a with
  |none=>rfl
  |some o=>
   obtain⟨o',z⟩:=t a o w;rw[n2 i a (by lia) h]at z;cases z
def Ext.trans0 {β β1 β2:AO} {H H1 H2:Hp} (a:Ext No β H β1 H1) (b:Ext No β1 H1 β2 H2):Ext No β H β2 H2:=
 ⟨fun x o h n m=>let ⟨h1,n1⟩:=a.keep x o h n m;b.keep x o h1 n1 m,A1 a.len b.len,fun i x hi h=>a.bet i x hi (b.bet i x (Au hi a.len) h),fun x o h=>let ⟨o1,h1⟩:=a.there x o h;b.there x o1 h1,HQ a.there (fun i x hi h=>b.bet i x hi h) a.nwb b.nwb⟩
section
variable {κ:Kx} {β β':AO} {O O':Addr->Prop} {H H':Hp} {M:Addr->Prop}
mutual
theorem Rep.ext (e:Ext M β H β' H') (hM:∀a,M a->O a) (hO:∀a o,H a=some o->¬O a->¬O' a):∀{x:V3} {y:V},Rep κ β O H x y->Rep κ β' O' H' x y
 |_,_,.non=>.non
 |_,_,.bl b=>.bl b
 |_,_,.int i=>.int i
 |_,_,.str x=>.str x
 |_,_,.ty n=>.ty n
 |_,_,.tup h n o r=>let ⟨h1,n1⟩:=e.keep _ _ h n fun m=>o (hM _ m);.tup h1 n1 (hO _ _ h o) (Reps.ext e hM hO r)
 |_,_,.lst h n o r=>let ⟨h1,n1⟩:=e.keep _ _ h n fun m=>o (hM _ m);.lst h1 n1 (hO _ _ h o) (Reps.ext e hM hO r)
 |_,_,.scr h n o=>let ⟨h1,n1⟩:=e.keep _ _ h n fun m=>o (hM _ m);.scr h1 n1 (hO _ _ h o)
 |_,_,.scrK h=>.scrK h
 |_,_,.dK h n o r=>let ⟨h1,n1⟩:=e.keep _ _ h n fun m=>o (hM _ m);.dK h1 n1 (hO _ _ h o) (RepP.ext e hM hO r)
 |_,_,.dT h n o r=>let ⟨h1,n1⟩:=e.keep _ _ h n fun m=>o (hM _ m);.dT h1 n1 (hO _ _ h o) (RepP.ext e hM hO r)
 |_,_,.obj k h n o r=>let ⟨h1,n1⟩:=e.keep _ _ h n fun m=>o (hM _ m);.obj k h1 n1 (hO _ _ h o) (RepP.ext e hM hO r)
 |_,_,.cls k=>.cls k
 |_,_,.loc l h=>.loc (Au l e.len) fun a q=>h a (e.bet _ _ l q)
theorem Reps.ext (e:Ext M β H β' H') (hM:∀a,M a->O a) (hO:∀a o,H a=some o->¬O a->¬O' a):∀{x:List V3} {y:List V},Reps κ β O H x y->Reps κ β' O' H' x y
 |_,_,.nil=>.nil
 |_,_,.cons a r=>.cons (Rep.ext e hM hO a) (Reps.ext e hM hO r)
theorem RepP.ext (e:Ext M β H β' H') (hM:∀a,M a->O a) (hO:∀a o,H a=some o->¬O a->¬O' a):∀{α:Type} {x:List (α×V3)} {y:List (α×V)},RepP κ β O H x y->RepP κ β' O' H' x y
 |_,_,_,.nil=>.nil
 |_,_,_,.cons a r=>.cons (Rep.ext e hM hO a) (RepP.ext e hM hO r)
end
end
section
variable {κ:Kx} {β β':AO} {O O':Addr->Prop} {H H':Hp} {M:Addr->Prop}
def Rep.sub (h:∀a,O' a->O a) {x:V3} {y:V} (r:Rep κ β O H x y):Rep κ β O' H x y:=r.ext (M:=No) Ext.refl (fun _ z=>z.elim) fun a _ _ n m=>n (h a m)
def Reps.sub (h:∀a,O' a->O a) {x:List V3} {y:List V} (r:Reps κ β O H x y):Reps κ β O' H x y:=r.ext (M:=No) Ext.refl (fun _ z=>z.elim) fun a _ _ n m=>n (h a m)
def RepP.sub (h:∀a,O' a->O a) {α:Type} {x:List (α×V3)} {y:List (α×V)} (r:RepP κ β O H x y):RepP κ β O' H x y:=r.ext (M:=No) Ext.refl (fun _ z=>z.elim) fun a _ _ n m=>n (h a m)
def Rep.ext0 (e:Ext No β H β' H') {x:V3} {y:V} (r:Rep κ β O H x y):Rep κ β' O H' x y:=r.ext e (fun _ z=>z.elim) fun _ _ _ n=>n
def Reps.ext0 (e:Ext No β H β' H') {x:List V3} {y:List V} (r:Reps κ β O H x y):Reps κ β' O H' x y:=r.ext e (fun _ z=>z.elim) fun _ _ _ n=>n
theorem Reps.length:∀{x:List V3} {y:List V},Reps κ β O H x y->x.length=y.length
 |_,_,.nil=>rfl
 |_,_,.cons _ r=>congrArg (· +1) r.length
theorem Reps.get:∀{xs:List V3} {ys:List V} {i:Nat} {x:V3},Reps κ β O H xs ys->xs[i]? =some x->∃y,ys[i]? =some y/\Rep κ β O H x y
 |_,_,_,_,.nil,e=>by simp at e
 |_,_,0,_,.cons r _,e=>by simp at e;subst e;exact⟨_,rfl,r⟩
 |_,_,i+1,x,.cons _ t,e=>by
  obtain⟨u,h1,h2⟩:=Reps.get (i:=i) (x:=x) t (by simpa using e)
  exact⟨u,by simpa using h1,h2⟩
theorem Reps.get':∀{xs:List V3} {ys:List V} {i:Nat} {y:V},Reps κ β O H xs ys->ys[i]? =some y->∃x,xs[i]? =some x/\Rep κ β O H x y
 |_,_,_,_,.nil,e=>by simp at e
 |_,_,0,_,.cons r _,e=>by simp at e;subst e;exact⟨_,rfl,r⟩
 |_,_,i+1,x,.cons _ t,e=>by
  obtain⟨u,h1,h2⟩:=Reps.get' (i:=i) (y:=x) t (by simpa using e)
  exact⟨u,by simpa using h1,h2⟩
theorem Reps.append:∀{xs:List V3} {ys:List V} {xs':List V3} {ys':List V},Reps κ β O H xs ys->Reps κ β O H xs' ys'->Reps κ β O H (xs++xs') (ys++ys')
 |_,_,_,_,.nil,s=>s
 |_,_,_,_,.cons r t,s=>.cons r (Reps.append t s)
theorem Reps.take:∀{xs:List V3} {us:List V} (n:Nat),Reps κ β O H xs us->Reps κ β O H (xs.take n) (us.take n)
 |_,_,0,_=>.nil
 |_,_,_+1,.nil=>.nil
 |_,_,n+1,.cons r t=>.cons r (Reps.take n t)
theorem Reps.drop:∀{xs:List V3} {us:List V} (n:Nat),Reps κ β O H xs us->Reps κ β O H (xs.drop n) (us.drop n)
 |_,_,0,r=>r
 |_,_,_+1,.nil=>.nil
 |_,_,n+1,.cons _ t=>Reps.drop n t
theorem Reps.rep {xs:List V3} {us:List V} (h:Reps κ β O H xs us):∀k:Nat,Reps κ β O H (List.replicate k xs).flatten (List.replicate k us).flatten
 |0=>.nil
 |k+1=>by
  rw[Bx,Bx,B4,B4];exact h.append (Reps.rep h k)
end
def CellR (κ:Kx) (β:AO) (O:Addr->Prop) (H:Hp):C3->Addr->Prop
 |.lst xs,a=> ∃ys,H a=some (.lst ys)/\Reps κ β O H xs ys
 |.dK kvs,a=> ∃ws,H a=some (.dK ws)/\RepP κ β O H kvs ws
 |.dT kvs,a=> ∃ws,H a=some (.dT ws)/\RepP κ β O H kvs ws
 |.ins c fs,a=> ∃C dx gs,κ.cl c=some C/\H a=some (.ins C dx gs)/\RepP κ β O H fs gs
 |.dead,_=>False
structure RelH (κ:Kx) (O:Addr->Prop) (β:AO) (h:H3) (H:Hp):Prop where
 len:β.length=h.length
 inj:∀(i j:Nat) a,β[i]? =some (some a)->β[j]? =some (some a)->i=j
 off:∀a,O a->some a∉β
 trk:∀a,O a->∃o,H a=some o/\∀ys,o≠HO.tup ys
 btr:∀(i:Nat) a,β[i]? =some (some a)->∃o,H a=some o/\∀ys,o≠HO.tup ys
 cell:∀(i:Nat) c,h[i]? =some c->c=.dead\/∃a,β[i]? =some (some a)/\CellR κ β O H c a
structure Fr where
 Oi:Addr->Prop
 T:List Addr
 β:AO
 l:AO
 s:S3
 h:H3
def Fr.O (F:Fr):Addr->Prop:=fun a=>a∈F.T\/some a∈F.l\/F.Oi a
def SlotR (κ:Kx) (F:Fr) (H:Hp) (i:Nat):Vl->V->Prop
 |.v x,v=>Rep κ F.β F.O H x v
 |.m c,v=> ∃a,F.l[i]? =some (some a)/\v=.ref a/\CellR κ F.β F.O H c a
structure Rel (κ:Kx) (F:Fr) (σ:St) (H:Hp):Prop where
 heap:RelH κ F.O F.β F.h H
 slen:F.s.length=σ.length
 llen:F.l.length=F.s.length
 linj:∀(i j:Nat) a,F.l[i]? =some (some a)->F.l[j]? =some (some a)->i=j
 lt:∀a,some a∈F.l->a∉F.T
 lo:∀a,some a∈F.l->¬F.Oi a
 to:∀a∈F.T,¬F.Oi a
 tn:F.T.Nodup
 slot:∀(i:Nat) x,F.s[i]? =some (some x)->∃v,σ[i]? =some (some v)/\SlotR κ F H i x v
section
variable {κ:Kx} {β β':AO} {O O':Addr->Prop} {H H':Hp} {M:Addr->Prop} {c:C3} {a:Addr} {h:H3}
theorem CellR.sub (hs:∀a,O' a->O a) (r:CellR κ β O H c a):CellR κ β O' H c a:=by
 cases c with
 |lst xs=>obtain⟨_,q,r⟩:=r;exact⟨_,q,r.sub hs⟩
 |dK xs=>obtain⟨_,q,r⟩:=r;exact⟨_,q,r.sub hs⟩
 |dT xs=>obtain⟨_,q,r⟩:=r;exact⟨_,q,r.sub hs⟩
 |ins c fs=>obtain⟨_,_,_,k,q,r⟩:=r;exact⟨_,_,_,k,q,r.sub hs⟩
 |dead=>exact r
theorem CellR.ext (e:Ext M β H β' H') (hM:∀a,M a->O a) (hO:∀a o,H a=some o->¬O a->¬O' a) (hb:∀o,H a=some o->H' a=some o) (r:CellR κ β O H c a):CellR κ β' O' H' c a:=by
 cases c with
 |lst xs=>obtain⟨_,q,r⟩:=r;exact⟨_,hb _ q,r.ext e hM hO⟩
 |dK xs=>obtain⟨_,q,r⟩:=r;exact⟨_,hb _ q,r.ext e hM hO⟩
 |dT xs=>obtain⟨_,q,r⟩:=r;exact⟨_,hb _ q,r.ext e hM hO⟩
 |ins c fs=>obtain⟨_,_,_,k,q,r⟩:=r;exact⟨_,_,_,k,hb _ q,r.ext e hM hO⟩
 |dead=>exact r
theorem CellR.fz {x:V3} (hc:c.fz=some x) (hn:some a∉β) (ho: ¬O a) (r:CellR κ β O H c a):Rep κ β O H x (.ref a):=by
 cases c with
 |lst xs=>cases hc;obtain⟨_,q,r⟩:=r;exact .lst q hn ho r
 |dK xs=>cases hc;obtain⟨_,q,r⟩:=r;exact .dK q hn ho r
 |dT xs=>cases hc;obtain⟨_,q,r⟩:=r;exact .dT q hn ho r
 |ins c fs=>cases hc;obtain⟨_,_,_,k,q,r⟩:=r;exact .obj k q hn ho r
 |dead=>exact r.elim
theorem RelH.sub (hs:∀a,O' a->O a) (r:RelH κ O β h H):RelH κ O' β h H:=
 ⟨r.len,r.inj,fun a ha=>r.off a (hs a ha),fun a ha=>r.trk a (hs a ha),r.btr,fun i c hc=>(r.cell i c hc).imp id fun ⟨a,ha,q⟩=>⟨a,ha,q.sub hs⟩⟩
end
abbrev Fr.with (F:Fr) (p:Addr):Fr:={F with T:=p::F.T}
abbrev Fr.to (F:Fr) (β:AO) (h:H3):Fr:={F with β:=β,h:=h}
abbrev Nw (H:Hp):Addr->Prop:=fun p=>H p=none
def Post (κ:Kx) (N:Addr->Prop) (F:Fr) (σ:St) (H:Hp):Vl->V->Prop
 |.v x,v=>Rel κ F σ H/\Rep κ F.β F.O H x v
 |.m c,v=> ∃p,v=.ref p/\Rel κ (F.with p) σ H/\CellR κ F.β (F.with p).O H c p/\N p
def XOk (κ:Kx) (E:XK) (x:X3) (H:Hp):Prop:=∀C,κ.cl x.c=some C->E (.ref C) none H
abbrev Kd (α ω:Type):=Hp->Fr->St->Hp->α->ω->Prop
def BD {α ω:Type} (K:Kd α ω):Prop:=∀(M:Addr->Prop) β H β1 H1 F σ H' a w,Ext M β H β1 H1->K H1 F σ H' a w->K H F σ H' a w
def Out {α ω:Type} (κ:Kx) (E:XK) (K:Kd α ω) (F:Fr) (σ:St) (H:Hp) (Q:ω->Hp->Prop):Res α->Prop
 |.ok a h'=> ∀β' w H',Ext No F.β H β' H'->K H (F.to β' h') σ H' a w->Q w H'
 |.ex x h'=> ∀β' H',Ext No F.β H β' H'->RelH κ F.Oi β' h' H'->XOk κ E x H'
 |.no=>False
def tOf {α ω:Type} (κ:Kx) (E:XK) (K:Kd α ω) (d:S3->H3->Res α) (σ:St) (H:Hp) (Q:ω->Hp->Prop):Prop:=∃F,Rel κ F σ H/\Out κ E K F σ H Q (d F.s F.h)
def kE (κ:Kx):Kd Vl V:=fun H F σ H' r v=>Post κ (Nw H) F σ H' r v
abbrev zg (κ:Kx) (E:XK) (d:E3):TE:=tOf κ E (kE κ) d
section
variable {κ:Kx} {E:XK} {F:Fr} {σ:St} {H H':Hp} {Q:VK} {p:Addr}
def Fr.O_with {a:Addr} (h:F.O a):(F.with p).O a:=h.imp (fun z=>Ap _ z) id
theorem SlotR.sub {F F':Fr} {i:Nat} {x:Vl} {v:V} (hb:F'.β=F.β) (hl:F'.l=F.l) (hs:∀a,F'.O a->F.O a) (h:SlotR κ F H i x v):SlotR κ F' H i x v:=by
 cases x with
 |v x=>show Rep κ F'.β F'.O H x v;rw[hb];exact Rep.sub hs h
 |m c=>obtain⟨a,h1,h2,h3⟩:=h;refine⟨a,by rw[hl];exact h1,h2,?_⟩;rw[hb];exact h3.sub hs
def Rel.drop (h:Rel κ (F.with p) σ H):Rel κ F σ H where
 heap:=h.heap.sub fun a ha=>Fr.O_with ha
 slen:=h.slen
 llen:=h.llen
 linj:=h.linj
 lt:=fun a ha z=>h.lt a ha (Ap _ z)
 lo:=h.lo
 to:=fun a ha=>h.to a (Ap _ ha)
 tn:=(Be.mp h.tn).2
 slot:=fun i x e=>let ⟨v,a,b⟩:=h.slot i x e;⟨v,a,SlotR.sub (F:=F.with p) (F':=F) rfl rfl (fun a ha=>Fr.O_with ha) b⟩
def Rel.apart (h:Rel κ (F.with p) σ H): ¬F.O p:=fun z=>by
 rcases z with z|z|z
 .exact (Be.mp h.tn).1 z
 .exact h.lt p z Ak
 .exact h.to p Ak z
def Rel.offp (h:Rel κ (F.with p) σ H):some p∉F.β:=h.heap.off p (.inl Ak)
theorem Post.fz {N:Addr->Prop} {x:Vl} {y:V3} {v:V} (h:Post κ N F σ H x v) (e:x.fz=some y):Rel κ F σ H/\Rep κ F.β F.O H y v:=by
 cases x with
 |v x=>cases e;exact h
 |m c=>
  obtain⟨p,rfl,r,q,_⟩:=h;exact⟨r.drop,(q.sub (O':=F.O) fun a ha=>Fr.O_with ha).fz e r.offp r.apart⟩
def Post.imp {N N':Addr->Prop} {x:Vl} {v:V} (h:Post κ N F σ H x v) (k:∀p,N p->N' p):Post κ N' F σ H x v:=by
 cases x with
 |v x=>exact h
 |m c=>obtain⟨p,h1,h2,h3,h4⟩:=h;exact⟨p,h1,h2,h3,k p h4⟩
def Ext.nw {M:Addr->Prop} {β β':AO} {H0 H1:Hp} (e:Ext M β H0 β' H1):∀p,Nw H1 p->Nw H0 p:=fun p h=>by
 cases w:H0 p with
 |none=>exact w
 |some o=>obtain⟨o',z⟩:=e.there p o w;rw[h]at z;cases z
def Rel.slotExt {β':AO} {h':H3} (r:Rel κ F σ H) (e:Ext No F.β H β' H') {i:Nat} {x:Vl} {v:V} (q:SlotR κ F H i x v):SlotR κ (F.to β' h') H' i x v:=by
 cases x with
 |v x=>exact Rep.ext0 e q
 |m c=>
  obtain⟨a,h1,h2,h3⟩:=q;have ha:F.O a:= .inr (.inl (Aj h1));exact⟨a,h1,h2,h3.ext e (fun _ z=>z.elim) (fun _ _ _ n=>n) fun o ho=>(e.keep a o ho (r.heap.off a ha) fun z=>z).1⟩
def Rel.next {β':AO} {h':H3} (r:Rel κ F σ H) (e:Ext No F.β H β' H') (rh:RelH κ F.O β' h' H'):Rel κ (F.to β' h') σ H' where
 heap:=rh
 slen:=r.slen
 llen:=r.llen
 linj:=r.linj
 lt:=r.lt
 lo:=r.lo
 to:=r.to
 tn:=r.tn
 slot:=fun i x hx=>let ⟨v,a,b⟩:=r.slot i x hx;⟨v,a,r.slotExt e b⟩
def Out.move {α ω:Type} {K:Kd α ω} {Q:ω->Hp->Prop} {r:Res α} {β':AO} {h':H3} (hK:BD K) (e:Ext No F.β H β' H') (o:Out κ E K F σ H Q r):Out κ E K (F.to β' h') σ H' Q r:=by
 cases r with
 |ok x h2=>exact fun β2 v H2 e2 p=>o β2 v H2 (e.trans0 e2) (hK _ _ _ _ _ _ _ _ _ _ e p)
 |ex x h2=>exact fun β2 H2 e2 p=>o β2 H2 (e.trans0 e2) p
 |no=>exact o
def zu:BD (kE κ):=fun M β H β1 H1 F σ H' a w e h=>Post.imp h e.nw
def tOf.mono {α ω:Type} {K:Kd α ω} {Q Q':ω->Hp->Prop} {d:S3->H3->Res α} (h:tOf κ E K d σ H Q) (k:∀v H,Q v H->Q' v H):tOf κ E K d σ H Q':=by
 obtain⟨F,rel,o⟩:=h
 refine⟨F,rel,?_⟩
 cases q:d F.s F.h with
 |ok r h1=>rw[q]at o;exact fun β v H' e p=>k _ _ (o β v H' e p)
 |ex x h1=>rw[q]at o;exact o
 |no=>rw[q]at o;exact o
def zG {α ω α' ω':Type} {K:Kd α ω} {K':Kd α' ω'} {Q:ω'->Hp->Prop} {a:S3->H3->Res α} {k:α->H3->Res α'} (hK:BD K') (rel:Rel κ F σ H) (h:Out κ E K' F σ H Q ((a F.s F.h).bind k)):
  tOf κ E K a σ H (fun w H1=> ∃β1 h1 x,Ext No F.β H β1 H1/\K H (F.to β1 h1) σ H1 x w/\Out κ E K' (F.to β1 h1) σ H1 Q (k x h1)):=by
 refine⟨F,rel,?_⟩
 cases q:a F.s F.h with
 |no=>rw[q]at h;exact h
 |ex x h1=>rw[q]at h;exact h
 |ok r h1=>rw[q]at h;exact fun β1 v H1 e p=>⟨β1,h1,r,e,p,Out.move hK e h⟩
def yz {β:AO} {o:HO} (hp:H p=none):Ext No β H β (zl H p o):=
 ⟨fun a u ha hn _=>⟨by rw[zW (ql ha hp)];exact ha,hn⟩,Ac _,fun _ _ _ h=>h,fun a u ha=>⟨u,by rw[zW (ql ha hp)];exact ha⟩,nwb0⟩
def RelH.trk' {O:Addr->Prop} {β:AO} {h:H3} (r:RelH κ O β h H) (a:Addr) (ha:O a):∃o,H a=some o:=let ⟨u,q,_⟩:=r.trk a ha;⟨u,q⟩
def RelH.btr' {O:Addr->Prop} {β:AO} {h:H3} (r:RelH κ O β h H) (i:Nat) (a:Addr) (e:β[i]? =some (some a)):∃o,H a=some o:=let ⟨u,q,_⟩:=r.btr i a e;⟨u,q⟩
def CellR.nt {β:AO} {O:Addr->Prop} {c:C3} {u:HO} {l:Addr} (h:CellR κ β O (zl H l u) c l):∀ys,u≠HO.tup ys:=by
 intro ys z;subst z;cases c with
 |lst xs=>obtain⟨_,e,_⟩:=h;rw[yL]at e;cases e
 |dK xs=>obtain⟨_,e,_⟩:=h;rw[yL]at e;cases e
 |dT xs=>obtain⟨_,e,_⟩:=h;rw[yL]at e;cases e
 |ins c fs=>obtain⟨_,_,_,_,e,_⟩:=h;rw[yL]at e;cases e
 |dead=>exact h
def RelH.off_new {O:Addr->Prop} {β:AO} {h:H3} (r:RelH κ O β h H) (hp:H p=none):some p∉β/\¬O p:=by
 refine⟨fun z=>?_,fun z=>?_⟩
 .obtain⟨i,hi⟩:=C8 z
  obtain⟨o,ho,_⟩:=r.btr i p hi;rw[hp]at ho;cases ho
 .obtain⟨o,ho,_⟩:=r.trk p z
  rw[hp]at ho;cases ho
def RelH.laid {O:Addr->Prop} {β:AO} {h:H3} {o:HO} (r:RelH κ O β h H) (hp:H p=none):RelH κ O β h (zl H p o):=by
 have k:∀a u,H a=some u->zl H p o a=some u:=fun a u ha=>by rw[zW (ql ha hp)];exact ha
 exact⟨r.len,r.inj,r.off,fun a ha=>let ⟨u,q,n⟩:=r.trk a ha;⟨u,k a u q,n⟩,fun i a e=>let ⟨u,q,n⟩:=r.btr i a e;⟨u,k a u q,n⟩,
  fun i c hc=>(r.cell i c hc).imp id fun ⟨a,ha,q⟩=>⟨a,ha,q.ext (yz hp) (fun _ z=>z.elim) (fun _ _ _ n=>n) fun u hu=>k a u hu⟩⟩
theorem Rel.laid {o:HO} (r:Rel κ F σ H) (hp:H p=none):Rel κ F σ (zl H p o):=r.next (yz hp) (r.heap.laid hp)
def O_ne {a:Addr} (h:(F.with p).O a) (hne:a≠p):F.O a:=by
 rcases h with h|h
 .rcases Ai.mp h with h|h
  .exact absurd h hne
  .exact .inl h
 .exact .inr h
def Rel.new {o:HO} (r:Rel κ F σ H) (hp:H p=none) (ho:∀ys,o≠HO.tup ys:=by intro _ z;cases z):Rel κ (F.with p) σ (zl H p o)/\∀{x:V3} {y:V},Rep κ F.β F.O H x y->Rep κ F.β (F.with p).O (zl H p o) x y:=by
 obtain⟨n1,n2⟩:=r.heap.off_new hp;have e:Ext No F.β H F.β (zl H p o):=yz hp;have hM:∀a,No a->F.O a:=fun _ z=>z.elim
 have hO:∀a u,H a=some u->¬F.O a->¬(F.with p).O a:=fun a u ha n z=>n (O_ne z (ql ha hp))
 have k:∀a u,H a=some u->zl H p o a=some u:=fun a u ha=>by rw[zW (ql ha hp)];exact ha
 refine⟨⟨⟨r.heap.len,r.heap.inj,fun a ha=>?_,fun a ha=>?_,fun i a q=>let ⟨u,z,n⟩:=r.heap.btr i a q;⟨u,k a u z,n⟩,fun i c hc=>(r.heap.cell i c hc).imp id fun ⟨a,ha,q⟩=>⟨a,ha,q.ext e hM hO fun u hu=>k a u hu⟩⟩,
  r.slen,r.llen,r.linj,?_,r.lo,?_,Be.mpr ⟨fun z=>n2 (.inl z),r.tn⟩,fun i x q=>?_⟩,fun h=>h.ext e hM hO⟩
 .by_cases z:a=p
  .subst z;exact n1
  .exact r.heap.off a (O_ne ha z)
 .by_cases z:a=p
  .subst z;exact⟨o,yL,ho⟩
  .obtain⟨u,q,n⟩:=r.heap.trk a (O_ne ha z);exact⟨u,k a u q,n⟩
 .intro a ha z
  rcases Ai.mp z with z|z
  .subst z;exact n2 (.inr (.inl ha))
  .exact r.lt a ha z
 .intro a ha z
  rcases Ai.mp ha with h|h
  .subst h;exact n2 (.inr (.inr z))
  .exact r.to a h z
 .obtain⟨v,h1,h2⟩:=r.slot i x q
  refine⟨v,h1,?_⟩
  cases x with
  |v x=>exact Rep.ext e hM hO h2
  |m c=>
   obtain⟨a,a1,a2,a3⟩:=h2;exact⟨a,a1,a2,a3.ext e hM hO fun u hu=>k a u hu⟩
def Out.val {x:V3} {v:V} (o:Out κ E (kE κ) F σ H Q (.ok (.v x) F.h)) (rel:Rel κ F σ H) (r:Rep κ F.β F.O H x v):Q v H:=o F.β v H Ext.refl ⟨rel,r⟩
inductive Rf where
 |x (v:V3)|s (i:Nat)
abbrev P3:=S3->H3->Res Rf
def pV (i:Nat):P3:=fun s h=>match s[i]? with
 |some (some (.v x))=>.ok (.x x) h
 |some (some (.m _))=>.ok (.s i) h
 |_=>.no
def pE (e:E3):P3:=fun s h=>(e s h).bind fun r h1=>match r.fz with
 |some x=>.ok (.x x) h1
 |none=>.no
def RfR (κ:Kx) (F:Fr) (H:Hp):Rf->V->Prop
 |.x y,v=>Rep κ F.β F.O H y v
 |.s i,v=> ∃a c,F.l[i]? =some (some a)/\v=.ref a/\F.s[i]? =some (some (.m c))/\CellR κ F.β F.O H c a
def kP (κ:Kx):Kd Rf V:=fun _ F σ H' f v=>Rel κ F σ H'/\RfR κ F H' f v
abbrev zh (κ:Kx) (E:XK) (d:P3):TE:=tOf κ E (kP κ) d
def km_P:BD (kP κ):=fun _ _ _ _ _ _ _ _ _ _ _ h=>h
theorem RfR.ext {β':AO} {h':H3} {f:Rf} {v:V} (rel:Rel κ F σ H) (e:Ext No F.β H β' H') (r:RfR κ F H f v):RfR κ (F.to β' h') H' f v:=by
 cases f with
 |x y=>exact Rep.ext0 e r
 |s i=>
  obtain⟨a,c,h1,h2,h3,h4⟩:=r;have ha:F.O a:= .inr (.inl (Aj h1));exact⟨a,c,h1,h2,h3,h4.ext e (fun _ z=>z.elim) (fun _ _ _ n=>n) fun o ho=>(e.keep a o ho (rel.heap.off a ha) fun z=>z).1⟩
def rdl (s:S3) (h:H3):Rf->Option (List V3)
 |.x (.lst xs)=>some xs
 |.x (.scr ns)=>some (ns.map .int)
 |.x (.loc n)=>match h[n]? with
  |some (.lst xs)=>some xs
  |_=>none
 |.s i=>match s[i]? with
  |some (some (.m (.lst xs)))=>some xs
  |_=>none
 |_=>none
def BE {f:Rf} {v:V} {xs:List V3} (rel:Rel κ F σ H) (r:RfR κ F H f v) (e:rdl F.s F.h f=some xs):∃a ys,v=.ref a/\SqL κ.K H a ys/\Reps κ F.β F.O H xs ys:=by
 cases f with
 |s i=>
  obtain⟨a,c,h1,h2,h3,h4⟩:=r;simp only[rdl,h3]at e;cases c<;>simp at e
  subst e;obtain⟨ys,h5,h6⟩:=h4;exact⟨a,ys,h2,.of h5,h6⟩
 |x y=>
  cases y<;>simp[rdl]at e
  case lst zs=>
   subst e;cases r with
   |lst h1 h2 h3 h4=>exact⟨_,_,rfl,.of h1,h4⟩
  case scr ns=>
   subst e;have g:∀l:List Int,Reps κ F.β F.O H (l.map V3.int) (l.map V.int):=fun l=>by
    induction l with
    |nil=>exact .nil
    |cons x r ih=>exact .cons (.int x) ih
   cases r with
   |scr h1 h2 h3=>exact⟨_,_,rfl,.inl (.inr ⟨_,h1⟩),g ns⟩
   |scrK h=>exact⟨_,_,rfl,.inr h,g ns⟩
  case loc n=>
   cases r with
   |loc h1 h2=>
    cases q:F.h[n]? with
    |none=>rw[q]at e;cases e
    |some c=>
     rw[q]at e;cases c<;>simp at e
     subst e
     rcases rel.heap.cell n _ q with z|⟨a,ha,ys,h5,h6⟩
     .cases z
     .exact⟨a,ys,h2 a ha,.of h5,h6⟩
end
abbrev A3:=S3->H3->Res (List Rf)
def aNil:A3:=fun _ h=>.ok [] h
def aCons (p:P3) (a:A3):A3:=fun s h=>(p s h).bind fun f h1=>(a s h1).bind fun fs h2=>.ok (f::fs) h2
def kA (κ:Kx):Kd (List Rf) (List V):=fun _ F σ H' fs vs=>Rel κ F σ H'/\Paired (RfR κ F H') fs vs
abbrev zK (κ:Kx) (E:XK) (d:A3):TA:=tOf κ E (kA κ) d
def vals3:List Rf->Option (List V3)
 | []=>some []
 |.x v::r=>(vals3 r).map (v:: ·)
 |.s _::_=>none
abbrev T3:=S3->H3->Res Bool
def kT (κ:Kx):Kd Bool Bool:=fun _ F σ H' b b'=>b'=b/\Rel κ F σ H'
abbrev zD (κ:Kx) (E:XK) (d:T3):TT:=tOf κ E (kT κ) d
section
variable {X:Cx} {κ:Kx} {E:XK} {F:Fr} {σ:St} {H H':Hp} {Q:VK} {p:Addr} {e a b:Expr} {pos:Pos} {i:Nat}
def km_A:BD (kA κ):=fun _ _ _ _ _ _ _ _ _ _ _ h=>h
def km_T:BD (kT κ):=fun _ _ _ _ _ _ _ _ _ _ _ h=>h
def yh {t t':TE} (h:PE X e t) (w:∀σ H Q,t' σ H Q->t σ H Q):PE X e t':=fun pins s σ H Q I q=>h pins s σ H Q I (w σ H Q q)
def PTw {t t':TT} (h:PT X e t) (w:∀σ H Q,t' σ H Q->t σ H Q):PT X e t':=fun pins s σ H Q I q=>h pins s σ H Q I (w σ H Q q)
def PWw {t t':TT} (h:PW X e t) (w:∀σ H Q,t' σ H Q->t σ H Q):PW X e t':=fun wh pins s σ H Q I q=>h wh pins s σ H Q I (w σ H Q q)
def PAw {es:List Expr} {t t':TA} (h:PA X es t) (w:∀σ H Q,t' σ H Q->t σ H Q):PA X es t':=fun pos pins s σ H Q I q=>h pos pins s σ H Q I (w σ H Q q)
def eV (i:Nat):E3:=fun s h=>match s[i]? with
 |some (some (.v x))=>.ok (.v x) h
 |_=>.no
def eC (x:V3):E3:=fun _ h=>.ok (.v x) h
abbrev kJ (n:Int):P3:=pE (eC (.int n))
def r_v (hv:PE X e (tVar i)):PE X e (zg κ E (eV i)):=yh hv fun σ H Q ⟨F,rel,o⟩=>by
 unfold eV at o;cases q:F.s[i]? with
 |none=>rw[q]at o;exact o.elim
 |some z=>
  rw[q]at o
  match z,q,o with
  |none,q,o=>exact o.elim
  |some (.m c),q,o=>exact o.elim
  |some (.v x),q,o=>
   obtain⟨v,h1,h2⟩:=rel.slot i _ q;exact⟨v,h1,o.val rel h2⟩
def rp_v (hv:PE X e (tVar i)):PE X e (zh κ E (pV i)):=yh hv fun σ H Q ⟨F,rel,o⟩=>by
 unfold pV at o;cases q:F.s[i]? with
 |none=>rw[q]at o;exact o.elim
 |some z=>
  rw[q]at o
  match z,q,o with
  |none,q,o=>exact o.elim
  |some (.m c),q,o=>
   obtain⟨v,h1,a,h2,h3,h4⟩:=rel.slot i _ q;exact⟨v,h1,o F.β v H Ext.refl ⟨rel,a,c,h2,h3,q,h4⟩⟩
  |some (.v x),q,o=>
   obtain⟨v,h1,h2⟩:=rel.slot i _ q;exact⟨v,h1,o F.β v H Ext.refl ⟨rel,h2⟩⟩
def za {d:E3} (h:PE X e (zg κ E d)):PE X e (zh κ E (pE d)):=yh h fun σ H Q ⟨F,rel,o⟩=>
 (zG (K:=kE κ) km_P rel o).mono fun v H1 ⟨β1,h1,x,e1,p1,o1⟩=>by
  cases z:x.fz with
  |none=>simp only[z]at o1;exact o1.elim
  |some y=>
   simp only[z]at o1;obtain⟨r1,r2⟩:=Post.fz p1 z;exact o1 β1 v H1 Ext.refl ⟨r1,r2⟩
def yF {x:V3} {v:V} (hc:PE X e (tC v)) (r:∀β O H,Rep κ β O H x v):PE X e (zg κ E (eC x)):=yh hc fun σ H Q ⟨F,rel,o⟩=>o.val rel (r _ _ _)
def HR {i j pos}:PE X (.Constant (.int i) j pos) (zg κ E (eC (.int i))):=yF JT fun _ _ _=>.int i
def zS {b j pos}:PE X (.Constant (.bool b) j pos) (zg κ E (eC (.bl b))):=yF JU fun _ _ _=>.bl b
def yo {x j pos}:PE X (.Constant (.str x) j pos) (zg κ E (eC (.str x))):=yF JV fun _ _ _=>.str x
def zf:PA X [] (zK κ E aNil):=PAw KP fun σ H Q ⟨F,rel,o⟩=>o F.β [] H Ext.refl ⟨rel,.nil⟩
def ze {es:List Expr} {d:P3} {t:A3} (ha:PE X e (zh κ E d)) (hr:PA X es (zK κ E t)) (hs:SE X e es:=by rfl):PA X (e::es) (zK κ E (aCons d t)):=
 PAw (KQ ha hr hs) fun σ H Q ⟨F,rel,o⟩=>
  (zG (K:=kP κ) km_A rel o).mono fun v H1 ⟨β1,h1,x,e1,⟨r1,rf1⟩,o1⟩=>
   (zG (F:=F.to β1 h1) (K:=kA κ) km_A r1 o1).mono fun vs H2 ⟨β2,h2,fs,e2,⟨r2,rf2⟩,o2⟩=>o2 β2 (v::vs) H2 Ext.refl ⟨r2,.cons (RfR.ext (F:=F.to β1 h1) (β':=β2) (h':=h2) r1 e2 rf1) rf2⟩
theorem Ds:∀{fs:List Rf} {vs:List V} {xs:List V3},Paired (RfR κ F H) fs vs->vals3 fs=some xs->Reps κ F.β F.O H xs vs
 |_,_,_,.nil,e=>by cases e;exact .nil
 |f::fs,v::vs,xs,.cons q t,e=>by
  cases f with
  |s i=>cases e
  |x y=>
   unfold vals3 at e;cases z:vals3 fs with
   |none=>rw[z]at e;cases e
   |some l=>rw[z]at e;cases e;exact .cons q (Ds t z)
abbrev F2:=S3->H3->Rf->Rf->Option Vl
def opt (h:H3):Option Vl->Res Vl
 |some z=>.ok z h
 |none=>.no
def eOp (f:F2) (a b:P3):E3:=fun s h=>(a s h).bind fun x h1=>(b s h1).bind fun y h2=>opt h2 (f s h2 x y)
def OpSim (κ:Kx) (r:R2) (f:F2):Prop:=∀(F:Fr) (σ:St) (H:Hp) (x y:Rf) (z:Vl) (v w:V) (Q:VK),Rel κ F σ H->RfR κ F H x v->RfR κ F H y w->f F.s F.h x y=some z->
 (∀u H',Ext No F.β H F.β H'->Post κ (Nw H) F σ H' z u->Q u H')->r v w H Q
theorem Out.opt {o:Option Vl} {h:H3} (h0:F.h=h) (q:Out κ E (kE κ) F σ H Q (opt h o)):∃z,o=some z/\∀u H',Ext No F.β H F.β H'->Post κ (Nw H) F σ H' z u->Q u H':=by
 cases o with
 |none=>exact q.elim
 |some z=>subst h0;exact⟨z,rfl,fun u H' e p=>q F.β u H' e p⟩
def Ef {r:R2} {f:F2} {a b:P3} (hs:OpSim κ r f) (h:zg κ E (eOp f a b) σ H Q):tOp r (zh κ E a) (zh κ E b) σ H Q:=by
 obtain⟨F,rel,o⟩:=h
 refine (zG (K:=kP κ) zu rel o).mono fun v H1 ⟨β1,h1,f1,e1,⟨r1,rf1⟩,o1⟩=>?_
 refine (zG (F:=F.to β1 h1) (K:=kP κ) zu r1 o1).mono fun w H2 ⟨β2,h2,f2,e2,⟨r2,rf2⟩,o2⟩=>?_
 obtain⟨z,q,k⟩:=Out.opt (F:=F.to β2 h2) rfl o2;exact hs (F.to β2 h2) σ H2 f1 f2 z v w Q r2 (RfR.ext (F:=F.to β1 h1) (β':=β2) (h':=h2) r1 e2 rf1) rf2 q k
def zk {op:Operator} {r:R2} {f:F2} {da db:P3} (hs:OpSim κ r f) (ho:OpR X (binaryOp op) r) (ha:PE X a (zh κ E da)) (hb:PE X b (zh κ E db)):PE X (.BinOp a op b pos) (zg κ E (eOp f da db)):=yh (K4 ho ha hb) fun _ _ _ h=>Ef hs h
def BS {op:CmpOp} {r:R2} {f:F2} {da db:P3} (hs:OpSim κ r f) (ho:OpR X (compareOp op) r) (hm:behindInMarks op b=false) (ha:PE X a (zh κ E da)) (hb:PE X b (zh κ E db)):PE X (.Compare a [op] [b] pos) (zg κ E (eOp f da db)):=yh (K8 ho ha hb hm) fun _ _ _ h=>Ef hs h
def r_ix {r:R2} {f:F2} {da db:P3} (hs:OpSim κ r f) (ho:IxR X r) (hm:DW b) (ha:PE X a (zh κ E da)) (hb:PE X b (zh κ E db)):PE X (.Subscript a b pos) (zg κ E (eOp f da db)):=yh (Lp ho ha hb hm) fun _ _ _ h=>Ef hs h
abbrev FB:=S3->H3->List Rf->Option Vl
def eB (f:FB) (a:A3):E3:=fun s h=>(a s h).bind fun fs h1=>opt h1 (f s h1 fs)
def qa (κ:Kx) (r:List V->Hp->VK->Prop) (f:FB):Prop:=∀(F:Fr) (σ:St) (H:Hp) (fs:List Rf) (z:Vl) (vs:List V) (Q:VK),Rel κ F σ H->Paired (RfR κ F H) fs vs->f F.s F.h fs=some z->
 (∀u H',Ext No F.β H F.β H'->Post κ (Nw H) F σ H' z u->Q u H')->r vs H Q
def te_b {r:List V->Hp->VK->Prop} {f:FB} {a:A3} (hs:qa κ r f) (h:zg κ E (eB f a) σ H Q):tCB r (zK κ E a) σ H Q:=by
 obtain⟨F,rel,o⟩:=h
 refine (zG (K:=kA κ) zu rel o).mono fun vs H1 ⟨β1,h1,fs,e1,⟨r1,rf1⟩,o1⟩=>?_
 obtain⟨z,q,k⟩:=Out.opt (F:=F.to β1 h1) rfl o1;exact hs (F.to β1 h1) σ H1 fs z vs Q r1 rf1 q k
def Ma {a:Addr} {u:HO} (hp:H p=none) (ha:H a=some u) (n: ¬F.O a): ¬(F.with p).O a:=fun z=>n (O_ne z (ql ha hp))
theorem Post.lst {xs:List V3} {ys:List V} (rel:Rel κ F σ H) (hp:H p=none) (r:Reps κ F.β F.O H xs ys):Post κ (Nw H) F σ (zl H p (.lst ys)) (.m (.lst xs)) (.ref p):=by
 obtain⟨r1,r2⟩:=rel.new (o:= .lst ys) hp;exact⟨p,rfl,r1,⟨ys,yL,r.ext (yz hp) (fun _ z=>z.elim) fun a u ha n=>Ma hp ha n⟩,hp⟩
theorem Post.tup {xs:List V3} {ys:List V} {N:Addr->Prop} (rel:Rel κ F σ H) (hp:H p=none) (r:Reps κ F.β F.O H xs ys):Post κ N F σ (zl H p (.tup ys)) (.v (.tup xs)) (.ref p):=by
 obtain⟨n1,n2⟩:=rel.heap.off_new hp;exact⟨rel.laid hp,.tup yL n1 n2 (r.ext0 (yz hp))⟩
def eTup (a:A3):E3:=fun s h=>(a s h).bind fun fs h1=>match vals3 fs with
 |some xs=>if xs.length<=sizeLine then .ok (.v (.tup xs)) h1 else .no
 |none=>.no
def eLst (a:A3):E3:=fun s h=>(a s h).bind fun fs h1=>match vals3 fs with
 |some xs=>if xs.length<=sizeLine then .ok (.m (.lst xs)) h1 else .no
 |none=>.no
def AM {es:List Expr} {x1} {t:A3} (h:PA X es (zK κ E t)):PE X (.Tuple es x1 pos) (zg κ E (eTup t)):=yh (KR h) fun σ H Q ⟨F,rel,o⟩=>
 (zG (K:=kA κ) zu rel o).mono fun vs H1 ⟨β1,h1,fs,e1,⟨r1,rf1⟩,o1⟩=>by
  cases q:vals3 fs with
  |none=>simp only[q]at o1;exact o1.elim
  |some xs=>
   simp only[q]at o1;have hr:=Ds rf1 q
   by_cases hz:xs.length<=sizeLine
   .rw[Aa hz]at o1
    exact⟨by rw[<-hr.length];exact hz,fun p hp=>o1 β1 (.ref p) _ (yz hp) (Post.tup r1 hp hr)⟩
   .rw[Ab hz]at o1;exact o1.elim
def qd {es:List Expr} {t:A3} (h:PA X es (zK κ E t)):PE X (.List es pos) (zg κ E (eLst t)):=yh (KS h) fun σ H Q ⟨F,rel,o⟩=>
 (zG (K:=kA κ) zu rel o).mono fun vs H1 ⟨β1,h1,fs,e1,⟨r1,rf1⟩,o1⟩=>by
  cases q:vals3 fs with
  |none=>simp only[q]at o1;exact o1.elim
  |some xs=>
   simp only[q]at o1;have hr:=Ds rf1 q
   by_cases hz:xs.length<=sizeLine
   .rw[Aa hz]at o1
    exact⟨by rw[<-hr.length];exact hz,fun p hp=>o1 β1 (.ref p) _ (yz hp) (Post.lst r1 hp hr)⟩
   .rw[Ab hz]at o1;exact o1.elim
def tE (e:E3):T3:=fun s h=>(e s h).bind fun r h1=>match r with
 |.v (.bl b)=>.ok b h1
 |_=>.no
def CN {d:E3} {Q:Bool->Hp->Prop} (h:zD κ E (tE d) σ H Q):zg κ E d σ H (fun x H'=> ∃k,x=.bl k/\Q k H'):=by
 obtain⟨F,rel,o⟩:=h
 refine (zG (K:=kE κ) km_T rel o).mono fun v H1 ⟨β1,h1,x,e1,p1,o1⟩=>?_
 match x,p1,o1 with
 |.v (.bl b),p1,o1=>
  obtain⟨r1,r2⟩:=p1;cases r2;exact⟨b,rfl,o1 β1 b H1 Ext.refl ⟨rfl,r1⟩⟩
def yi {op:CmpOp} {r:R2} {f:F2} {da db:P3} (hs:OpSim κ r f) (ho:OpR X (compareOp op) r) (hm:behindInMarks op b=false) (ha:PE X a (zh κ E da)) (hb:PE X b (zh κ E db)):PT X (.Compare a [op] [b] pos) (zD κ E (tE (eOp f da db))):=PTw (K9 ho ha hb hm) fun _ _ _ h=>Ef hs (CN h)
def yr {d:E3} (h:PE X e (zg κ E d)) (he:∀whole,isTrue e X.env whole=(do let v <-whole;standAt e.pos;holding [v] (truthy v)):=by intro _;rfl):PT X e (zD κ E (tE d)):=PTw (JW h he) fun _ _ _ q=>CN q
def tAnd3 (a b:T3):T3:=fun s h=>(a s h).bind fun c h1=>if c=true then b s h1 else .ok false h1
def tOr3 (a b:T3):T3:=fun s h=>(a s h).bind fun c h1=>if c=true then .ok true h1 else b s h1
def tNot3 (a:T3):T3:=fun s h=>(a s h).bind fun c h1=>.ok (!c) h1
def qf {t:T3} (ha:PT X a (zD κ E t)):PW X (.BoolOp .Or [a] pos) (zD κ E t):=JX ha
def yP {t u:T3} {rest:List Expr} (ha:PT X a (zD κ E t)) (hb:PW X (.BoolOp .Or (b::rest) pos) (zD κ E u)):PW X (.BoolOp .Or (a::b::rest) pos) (zD κ E (tOr3 t u)):=PWw (JY ha hb) fun σ H Q ⟨F,rel,o⟩=>
 (zG (K:=kT κ) km_T rel o).mono fun c H1 ⟨β1,h1,x,e1,⟨ec,r1⟩,o1⟩=>by
  subst ec;cases c with
  |true=>rw[Aa rfl]at o1 ⊢;exact o1 β1 true H1 Ext.refl ⟨rfl,r1⟩
  |false=>rw[Ab An]at o1 ⊢;exact⟨F.to β1 h1,r1,o1⟩
def yn {t:T3} (ha:PT X a (zD κ E t)):PT X (.UnaryOp .Not a pos) (zD κ E (tNot3 t)):=PTw (JZ ha) fun σ H Q ⟨F,rel,o⟩=>
 (zG (K:=kT κ) km_T rel o).mono fun c H1 ⟨β1,h1,x,e1,⟨ec,r1⟩,o1⟩=>by
  subst ec;exact o1 β1 _ H1 Ext.refl ⟨rfl,r1⟩
def eAnd (a b:E3):E3:=fun s h=>(tE a s h).bind fun c h1=>if c=true then b s h1 else .ok (.v (.bl false)) h1
def eOr (a b:E3):E3:=fun s h=>(tE a s h).bind fun c h1=>if c=true then .ok (.v (.bl true)) h1 else b s h1
def eNot (a:E3):E3:=fun s h=>(tE a s h).bind fun c h1=>.ok (.v (.bl !c)) h1
def HS {d u:E3} {rest:List Expr} (ha:PE X a (zg κ E d)) (hb:PE X (.BoolOp .And (b::rest) pos) (zg κ E u)):PE X (.BoolOp .And (a::b::rest) pos) (zg κ E (eAnd d u)):=yh (Ke ha hb) fun σ H Q ⟨F,rel,o⟩=>by
 refine tOf.mono (CN (zG (a:=tE d) (K:=kT κ) zu rel o)) fun x H1 ⟨k,ex,β1,h1,c,e1,⟨ec,r1⟩,o1⟩=>⟨k,ex,?_⟩
 subst ec;cases k with
 |true=>rw[Aa rfl]at o1 ⊢;exact⟨F.to β1 h1,r1,o1⟩
 |false=>rw[Ab An]at o1 ⊢;exact o1 β1 _ H1 Ext.refl ⟨r1,.bl false⟩
def r_or {d u:E3} {rest:List Expr} (ha:PE X a (zg κ E d)) (hb:PE X (.BoolOp .Or (b::rest) pos) (zg κ E u)):PE X (.BoolOp .Or (a::b::rest) pos) (zg κ E (eOr d u)):=yh (Kf ha hb) fun σ H Q ⟨F,rel,o⟩=>by
 refine tOf.mono (CN (zG (a:=tE d) (K:=kT κ) zu rel o)) fun x H1 ⟨k,ex,β1,h1,c,e1,⟨ec,r1⟩,o1⟩=>⟨k,ex,?_⟩
 subst ec;cases k with
 |true=>rw[Aa rfl]at o1 ⊢;exact o1 β1 _ H1 Ext.refl ⟨r1,.bl true⟩
 |false=>rw[Ab An]at o1 ⊢;exact⟨F.to β1 h1,r1,o1⟩
def Mb {d:E3} (ha:PE X a (zg κ E d)):PE X (.UnaryOp .Not a pos) (zg κ E (eNot d)):=yh (Kg ha) fun σ H Q ⟨F,rel,o⟩=>by
 refine tOf.mono (CN (zG (a:=tE d) (K:=kT κ) zu rel o)) fun x H1 ⟨k,ex,β1,h1,c,e1,⟨ec,r1⟩,o1⟩=>⟨k,ex,?_⟩
 subst ec;exact o1 β1 _ H1 Ext.refl ⟨r1,.bl _⟩
def ET {op} {d:E3} (h:PE X a (zg κ E d)):PE X (.BoolOp op [a] pos) (zg κ E d):=Kc h
def eIf (t:T3) (a b:E3):E3:=fun s h=>(t s h).bind fun c h1=>if c=true then a s h1 else b s h1
def r_if {c:Expr} {t:T3} {da db:E3} (hc:PT X c (zD κ E t)) (ha:PE X a (zg κ E da)) (hb:PE X b (zg κ E db)):PE X (.IfExp c a b pos) (zg κ E (eIf t da db)):=yh (Kh hc ha hb) fun σ H Q ⟨F,rel,o⟩=>
 (zG (K:=kT κ) zu rel o).mono fun c H1 ⟨β1,h1,x,e1,⟨ec,r1⟩,o1⟩=>by
  subst ec;cases c with
  |true=>rw[Aa rfl]at o1 ⊢;exact⟨F.to β1 h1,r1,o1⟩
  |false=>rw[Ab An]at o1 ⊢;exact⟨F.to β1 h1,r1,o1⟩
end
inductive O3 where
 |nx (s:S3) (h:H3)|rt (r:Vl) (h:H3)|bk (s:S3) (h:H3)|ct (s:S3) (h:H3)|ex (x:X3) (h:H3)|no
abbrev D3:=S3->H3->O3
structure SExt (F:Fr) (H:Hp) (F':Fr) (H':Hp):Prop where
 ext:Ext (fun a=>some a∈F.l) F.β H F'.β H'
 lam:∀a,some a∈F'.l->some a∈F.l\/H a=none
 oi:F'.Oi=F.Oi
 tt:F'.T=[]
abbrev NwS (F:Fr) (H:Hp):Addr->Prop:=fun p=>some p∈F.l\/H p=none
def SOut (κ:Kx) (E:XK) (F:Fr) (H:Hp) (D:Ends):O3->Prop
 |.nx s' h'=> ∀F' σ' H',SExt F H F' H'->F'.s=s'->F'.h=h'->Rel κ F' σ' H'->D.nx σ' H'
 |.bk s' h'=> ∀F' σ' H',SExt F H F' H'->F'.s=s'->F'.h=h'->Rel κ F' σ' H'->D.bk σ' H'
 |.ct s' h'=> ∀F' σ' H',SExt F H F' H'->F'.s=s'->F'.h=h'->Rel κ F' σ' H'->D.ct σ' H'
 |.rt r h'=> ∀F' σ' v H',SExt F H F' H'->F'.h=h'->Post κ (NwS F H) F' σ' H' r v->D.rt v H'
 |.ex x h'=> ∀F' H',SExt F H F' H'->RelH κ F'.Oi F'.β h' H'->XOk κ E x H'
 |.no=>False
def zo (κ:Kx) (E:XK) (d:D3):TS:=fun D σ H=> ∃F,Rel κ F σ H/\F.T=[]/\SOut κ E F H D (d F.s F.h)
section
variable {X:Cx} {κ:Kx} {E:XK} {F F1 F2:Fr} {σ σ':St} {H H1 H2 H':Hp} {Q:VK} {r:R} {p:Addr} {e a b:Expr} {pos:Pos} {i:Nat} {D:Ends}
theorem SExt.refl (ht:F.T=[]):SExt F H F H:=⟨Ext.refl,fun _ h=>.inl h,rfl,ht⟩
theorem SExt.trans (a:SExt F H F1 H1) (b:SExt F1 H1 F2 H2):SExt F H F2 H2 where
 ext:=⟨fun x o h n m=>(by
   obtain⟨h1,n1⟩:=a.ext.keep x o h n m
   refine b.ext.keep x o h1 n1 fun z=>?_
   rcases a.lam x z with q|q
   .exact m q
   .rw[h]at q;cases q),A1 a.ext.len b.ext.len,fun i x hi h=>a.ext.bet i x hi (b.ext.bet i x (Au hi a.ext.len) h),fun x o h=>let ⟨o1,h1⟩:=a.ext.there x o h;b.ext.there x o1 h1,HQ a.ext.there (fun i x hi h=>b.ext.bet i x hi h) a.ext.nwb b.ext.nwb⟩
 lam:=fun x h=>by
  rcases b.lam x h with q|q
  .exact a.lam x q
  .cases w:H x with
   |none=>exact .inr rfl
   |some o=>
    obtain⟨o',z⟩:=a.ext.there x o w;rw[q]at z;cases z
 oi:=b.oi.trans a.oi
 tt:=b.tt
def SExt.of0 {β':AO} {h':H3} (ht:F.T=[]) (e:Ext No F.β H β' H'):SExt F H (F.to β' h') H':=
 ⟨⟨fun x o h n _=>e.keep x o h n fun z=>z,e.len,e.bet,e.there,e.nwb⟩,fun _ h=>.inl h,rfl,ht⟩
theorem SOut.move {o:O3} (e:SExt F H F1 H1) (h:SOut κ E F H D o):SOut κ E F1 H1 D o:=by
 cases o with
 |nx s h'=>exact fun F2 σ2 H2 e2=>h F2 σ2 H2 (e.trans e2)
 |bk s h'=>exact fun F2 σ2 H2 e2=>h F2 σ2 H2 (e.trans e2)
 |ct s h'=>exact fun F2 σ2 H2 e2=>h F2 σ2 H2 (e.trans e2)
 |rt r h'=>exact fun F2 σ2 v H2 e2 eh q=>h F2 σ2 v H2 (e.trans e2) eh (q.imp fun p hp=>hp.elim (e.lam p) fun z=>.inr (e.ext.nw p z))
 |ex x h'=>exact fun F2 H2 e2=>h F2 H2 (e.trans e2)
 |no=>exact h
def qp {st:Stmt} {t t':TS} (h:PS X st t) (w:∀D σ H,t' D σ H->t D σ H):PS X st t':=fun pins s σ H D I q=>h pins s σ H D I (w D σ H q)
def PSsw {st:List Stmt} {t t':TS} (h:yj X st t) (w:∀D σ H,t' D σ H->t D σ H):yj X st t':=fun pins s σ H D I q=>h pins s σ H D I (w D σ H q)
def sSkip:D3:=fun s h=>.nx s h
def sSeq (a b:D3):D3:=fun s h=>match a s h with
 |.nx s1 h1=>b s1 h1
 |o=>o
def yb:yj X [] (zo κ E sSkip):=PSsw Kj fun D σ H ⟨F,rel,ht,o⟩=>o F σ H (.refl ht) rfl rfl rel
def zj {st:Stmt} {rest:List Stmt} {da db:D3} (h1:PS X st (zo κ E da)) (h2:yj X rest (zo κ E db)):yj X (st::rest) (zo κ E (sSeq da db)):=PSsw (Kk h1 h2) fun D σ H ⟨F,rel,ht,o⟩=>by
 refine⟨F,rel,ht,?_⟩
 unfold sSeq at o;cases q:da F.s F.h with
 |nx s1 h1=>
  rw[q]at o;intro F' σ' H' e es eh r'
  refine⟨F',r',e.tt,?_⟩
  rw[es,eh];exact SOut.move e o
 |rt r h=>rw[q]at o;exact o
 |bk s h=>rw[q]at o;exact o
 |ct s h=>rw[q]at o;exact o
 |ex x h=>rw[q]at o;exact o
 |no=>rw[q]at o;exact o
def zp {st:Stmt} {da:D3} (h1:PS X st (zo κ E da)):yj X [st] (zo κ E da):=Kl h1
def qm {α:Type} {l:List α} {i j:Nat} {x y:α} (h:(l.set i x)[j]? =some y):(i=j/\y=x)\/(i≠j/\l[j]? =some y):=by
 rw[Bj]at h
 by_cases e:i=j
 .rw[Aa e]at h
  by_cases e2:i<l.length
  .rw[Aa e2]at h;exact .inl ⟨e,(Option.some.inj h).symm⟩
  .rw[Ab e2]at h;cases h
 .rw[Ab e]at h;exact .inr ⟨e,h⟩
def qo {l:AO} {i:Nat} {x:Option Addr} {a:Addr} (h:some a∈l.set i x):(x=some a)\/(some a∈l/\∃j,j≠i/\l[j]? =some (some a)):=by
 obtain⟨j,hj⟩:=C8 h
 rcases qm hj with ⟨_,e⟩|⟨n,e⟩
 .exact .inl e.symm
 .exact .inr ⟨Aj e,j,fun z=>n z.symm,e⟩
abbrev Fr.setV (F:Fr) (i:Nat) (x:V3):Fr:={F with s:=F.s.set i (some (.v x)),l:=F.l.set i none}
abbrev Fr.setM (F:Fr) (i:Nat) (c:C3) (p:Addr):Fr:={F with s:=F.s.set i (some (.m c)),l:=F.l.set i (some p)}
abbrev Fr.setN (F:Fr) (i:Nat):Fr:={F with s:=F.s.set i none,l:=F.l.set i none}
def Dt {F:Fr} {i:Nat} {s:S3} {a:Addr} (h:({F with s:=s,l:=F.l.set i none}:Fr).O a):F.O a:=by
 rcases h with h|h|h
 .exact .inl h
 .rcases qo h with z|z
  .cases z
  .exact .inr (.inl z.1)
 .exact .inr (.inr h)
def Rel.setGen {F:Fr} {i:Nat} {s:S3} {σ':St} (rel:Rel κ F σ H) (hsl:s.length=F.s.length) (hσ:σ'.length=σ.length)
  (hslot:∀(j:Nat) x,s[j]? =some (some x)->(∃v,σ'[j]? =some (some v)/\SlotR κ ({F with s:=s,l:=F.l.set i none}:Fr) H j x v)):Rel κ {F with s:=s,l:=F.l.set i none} σ' H where
 heap:=rel.heap.sub fun a ha=>Dt ha
 slen:=by show s.length=_;rw[hsl,hσ];exact rel.slen
 llen:=by show (F.l.set i none).length=s.length;rw[Ba,hsl];exact rel.llen
 linj:=fun j k a h1 h2=>by
  rcases qm h1 with ⟨_,z⟩|⟨_,z1⟩
  .cases z
  .rcases qm h2 with ⟨_,z⟩|⟨_,z2⟩
   .cases z
   .exact rel.linj j k a z1 z2
 lt:=fun a ha=>by
  rcases qo ha with z|z
  .cases z
  .exact rel.lt a z.1
 lo:=fun a ha=>by
  rcases qo ha with z|z
  .cases z
  .exact rel.lo a z.1
 to:=rel.to
 tn:=rel.tn
 slot:=hslot
def Rel.slotNe {F:Fr} {i j:Nat} {s:S3} {x:Vl} {v:V} (hn:i≠j) (q:SlotR κ F H j x v):SlotR κ ({F with s:=s,l:=F.l.set i none}:Fr) H j x v:=by
 cases x with
 |v x=>exact Rep.sub (fun a ha=>Dt ha) q
 |m c=>
  obtain⟨a,h1,h2,h3⟩:=q
  refine⟨a,?_,h2,h3.sub fun a ha=>Dt ha⟩
  show (F.l.set i none)[j]? =_;rw[Bj,Ab hn];exact h1
theorem Rel.setV {x:V3} {v:V} (rel:Rel κ F σ H) (hr:Rep κ F.β F.O H x v) (hi:i<F.s.length):Rel κ (F.setV i x) (σ.set i (some v)) H:=by
 refine rel.setGen (by rw[Ba]) (by rw[Ba]) fun j y hj=>?_
 rcases qm hj with ⟨e,z⟩|⟨n,z⟩
 .subst e;cases z
  refine⟨v,?_,Rep.sub (fun a ha=>Dt ha) hr⟩
  rw[Bj,Aa rfl,Aa (by rw[<-rel.slen];exact hi)]
 .obtain⟨w,h1,h2⟩:=rel.slot j y z
  exact⟨w,by rw[Bj,Ab n];exact h1,Rel.slotNe n h2⟩
theorem Rel.setN {i:Nat} (rel:Rel κ F σ H):Rel κ (F.setN i) σ H:=by
 refine rel.setGen (by rw[Ba]) rfl fun j y hj=>?_
 rcases qm hj with ⟨e,z⟩|⟨n,z⟩
 .cases z
 .obtain⟨w,h1,h2⟩:=rel.slot j y z
  exact⟨w,h1,Rel.slotNe n h2⟩
def Eg {F:Fr} {i:Nat} {s:S3} {a p:Addr} (h:({F with s:=s,l:=F.l.set i (some p)}:Fr).O a):(F.with p).O a:=by
 rcases h with h|h|h
 .exact .inl (Ap _ h)
 .rcases qo h with z|z
  .cases z;exact .inl Ak
  .exact .inr (.inl z.1)
 .exact .inr (.inr h)
theorem Rel.setM {c:C3} (rel:Rel κ (F.with p) σ H) (hr:CellR κ F.β (F.with p).O H c p) (hi:i<F.s.length):Rel κ (F.setM i c p) (σ.set i (some (.ref p))) H where
 heap:=rel.heap.sub fun a ha=>Eg ha
 slen:=by show (F.s.set i _).length=_;rw[Ba,Ba];exact rel.slen
 llen:=by show (F.l.set i _).length=(F.s.set i _).length;rw[Ba,Ba];exact rel.llen
 linj:=fun j k a h1 h2=>by
  rcases qm h1 with ⟨e1,z1⟩|⟨n1,z1⟩<;>rcases qm h2 with ⟨e2,z2⟩|⟨n2,z2⟩
  .lia
  .cases z1;exact absurd Ak (rel.lt p (Aj z2))
  .cases z2;exact absurd Ak (rel.lt p (Aj z1))
  .exact rel.linj j k a z1 z2
 lt:=fun a ha z=>by
  rcases qo ha with q|q
  .cases q;exact (Be.mp rel.tn).1 z
  .exact rel.lt a q.1 (Ap _ z)
 lo:=fun a ha=>by
  rcases qo ha with q|q
  .cases q;exact rel.to p Ak
  .exact rel.lo a q.1
 to:=fun a ha=>rel.to a (Ap _ ha)
 tn:=(Be.mp rel.tn).2
 slot:=fun j y hj=>by
  rcases qm hj with ⟨e,z⟩|⟨n,z⟩
  .subst e;cases z
   refine⟨.ref p,?_,p,?_,rfl,hr.sub fun a ha=>Eg ha⟩
   .rw[Bj,Aa rfl,Aa (by rw[<-rel.slen];exact hi)]
   .show (F.l.set i _)[i]? =_
    rw[Bj,Aa rfl,Aa (by have h:=rel.llen;show i<F.l.length;rw[show F.l.length=F.s.length from h];exact hi)]
  .obtain⟨w,h1,h2⟩:=rel.slot j y z
   refine⟨w,by rw[Bj,Ab n];exact h1,?_⟩
   cases y with
   |v x=>exact Rep.sub (fun a ha=>Eg ha) h2
   |m c=>
    obtain⟨a,q1,q2,q3⟩:=h2
    refine⟨a,?_,q2,q3.sub fun a ha=>Eg ha⟩
    show (F.l.set i _)[j]? =_;rw[Bj,Ab n];exact q1
def SExt.setN {s:S3} (ht:F.T=[]):SExt F H ({F with s:=s,l:=F.l.set i none}:Fr) H:=
 ⟨Ext.refl,fun a h=>by
  rcases qo h with z|z
  .cases z
  .exact .inl z.1,rfl,ht⟩
def Res.bindS {α:Type} (r:Res α) (k:α->H3->O3):O3:=match r with
 |.ok r h=>k r h
 |.ex x h=>.ex x h
 |.no=>.no
theorem bindS {α ω:Type} {K:Kd α ω} {a:S3->H3->Res α} {k:α->H3->O3} (rel:Rel κ F σ H) (ht:F.T=[]) (o:SOut κ E F H D ((a F.s F.h).bindS k)):
  tOf κ E K a σ H (fun w H1=> ∃β1 h1 x,Ext No F.β H β1 H1/\K H (F.to β1 h1) σ H1 x w/\SOut κ E F H D (k x h1)):=by
 refine⟨F,rel,?_⟩
 cases q:a F.s F.h with
 |no=>rw[q]at o;exact o
 |ex x h1=>rw[q]at o;exact fun β' H' e r=>o (F.to β' h1) H' (SExt.of0 ht e) r
 |ok r h1=>rw[q]at o;exact fun β1 v H1 e p=>⟨β1,h1,r,e,p,o⟩
def sSet (i:Nat) (e:E3):D3:=fun s h=>(e s h).bindS fun r h1=>if i<s.length then .nx (s.set i (some r)) h1 else .no
def EU {d:E3} (h:zo κ E (sSet i d) D σ H):zg κ E d σ H (fun v H1=>D.nx (σ.set i (some v)) H1):=by
 obtain⟨F,rel,ht,o⟩:=h
 refine (bindS (K:=kE κ) rel ht o).mono fun v H1 ⟨β1,h1,r,e1,p1,o⟩=>?_
 by_cases hi:i<F.s.length
 .rw[Aa hi]at o
  cases r with
  |v x=>
   obtain⟨r1,r2⟩:=p1;exact o ((F.to β1 h1).setV i x) _ H1 ((SExt.of0 (h':=h1) ht e1).trans (SExt.setN ht)) rfl rfl (r1.setV r2 hi)
  |m c=>
   obtain⟨p,rfl,r1,r2,hp⟩:=p1
   refine o ((F.to β1 h1).setM i c p) _ H1 ?_ rfl rfl (r1.setM r2 hi)
   exact⟨(SExt.of0 (h':=h1) ht e1).ext,fun a ha=>by
    rcases qo ha with z|z
    .cases z;exact .inr hp
    .exact .inl z.1,rfl,ht⟩
 .rw[Ab hi]at o;exact o.elim
def Mc {x:Str} {pos':Pos} {d:E3} (hN:X.N.Nodup) (hi:X.N[i]? =some x) (hx:Loc X.env.scope x) (he:PE X e (zg κ E d)) (hs:swapsWith e (some (.Name x pos')) pos.line X.env=pure false:=by rfl)
 (hf:X.fn x=true\/X.env.scope.names.lookup x=some .local:=by first|exact .inl rfl|exact .inr rfl|assumption):PS X (.Assign [.Name x pos'] e pos) (zo κ E (sSet i d)):=qp (Kr hN hi hx he hs hf) fun D σ H h=>EU h
def sExp (e:E3):D3:=fun s h=>(e s h).bindS fun _ h1=>.nx s h1
def sRet (e:E3):D3:=fun s h=>(e s h).bindS fun r h1=>.rt r h1
def zJ {d:E3} (he:PE X e (zg κ E d)):PS X (.Return (some e) pos) (zo κ E (sRet d)):=qp (GY he) fun D σ H ⟨F,rel,ht,o⟩=>
 (bindS (K:=kE κ) rel ht o).mono fun v H1 ⟨β1,h1,r,e1,p1,o⟩=>o (F.to β1 h1) σ v H1 (SExt.of0 ht e1) rfl (p1.imp fun p hp=>.inr hp)
def sRetN:D3:=fun _ h=>.rt (.v .non) h
def Rel.take {c:C3} (rel:Rel κ F σ H) (hl:F.l[i]? =some (some p)):Rel κ ((F.setN i).with p) σ H:=by
 have r1:=rel.setN (i:=i);have ho:∀a,((F.setN i).with p).O a->F.O a:=fun a ha=>by
  rcases ha with z|z
  .rcases Ai.mp z with z|z
   .subst z;exact .inr (.inl (Aj hl))
   .exact .inl z
  .rcases z with z|z
   .rcases qo z with w|w
    .cases w
    .exact .inr (.inl w.1)
   .exact .inr (.inr z)
 have hb:∀a,some a∈F.l.set i none->a≠p:=fun a ha z=>by
  subst z
  rcases qo ha with w|⟨_,j,hj,w⟩
  .cases w
  .exact hj (rel.linj j i a w hl)
 refine⟨rel.heap.sub ho,r1.slen,r1.llen,r1.linj,fun a ha z=>?_,r1.lo,fun a ha z=>?_,Be.mpr ⟨fun z=>rel.lt p (Aj hl) z,rel.tn⟩,fun j y hj=>?_⟩
 .rcases Ai.mp z with z|z
  .exact hb a ha z
  .exact r1.lt a ha z
 .rcases Ai.mp ha with h|h
  .subst h;exact rel.lo a (Aj hl) z
  .exact rel.to a h z
 .rcases qm hj with ⟨_,z⟩|⟨n,z⟩
  .cases z
  .obtain⟨w,h1,h2⟩:=rel.slot j y z
   refine⟨w,h1,?_⟩
   cases y with
   |v x=>exact Rep.sub ho h2
   |m c=>
    obtain⟨a,q1,q2,q3⟩:=h2
    refine⟨a,?_,q2,q3.sub ho⟩
    show (F.l.set i none)[j]? =_;rw[Bj,Ab n];exact q1
def Md {a:Addr} (hl:F.l[i]? =some (some p)) (ha:((F.setN i).with p).O a):F.O a:=by
 rcases ha with z|z
 .rcases Ai.mp z with z|z
  .subst z;exact .inr (.inl (Aj hl))
  .exact .inl z
 .rcases z with z|z
  .rcases qo z with w|w
   .cases w
   .exact .inr (.inl w.1)
  .exact .inr (.inr z)
def sRetS (i:Nat):D3:=fun s h=>match s[i]? with
 |some (some r)=>.rt r h
 |_=>.no
def BF (hv:PE X e (tVar i)):PS X (.Return (some e) pos) (zo κ E (sRetS i)):=qp (GY hv) fun D σ H ⟨F,rel,ht,o⟩=>by
 unfold sRetS at o;cases q:F.s[i]? with
 |none=>rw[q]at o;exact o.elim
 |some z=>
  rw[q]at o
  match z,q,o with
  |none,q,o=>exact o.elim
  |some (.v x),q,o=>
   obtain⟨v,h1,h2⟩:=rel.slot i _ q;exact⟨v,h1,o F σ v H (.refl ht) rfl ⟨rel,h2⟩⟩
  |some (.m c),q,o=>
   obtain⟨v,h1,a,h2,h3,h4⟩:=rel.slot i _ q;subst h3;exact⟨_,h1,o (F.setN i) σ (.ref a) H (SExt.setN ht) rfl ⟨a,rfl,Rel.take (c:=c) rel h2,h4.sub fun b hb=>Md h2 hb,.inl (Aj h2)⟩⟩
def sFz (i:Nat):D3:=fun s h=>match s[i]? with
 |some (some (.m c))=>match c.fz with
  |some x=>.nx (s.set i (some (.v x))) h
  |none=>.no
 |_=>.nx s h
def Me {d:D3} (h:zo κ E (sSeq (sFz i) d) D σ H):zo κ E d D σ H:=by
 obtain⟨F,rel,ht,o⟩:=h;unfold sSeq sFz at o;have same:(match (F.s[i]? :Option (Option Vl)) with|some (some (.m c))=>False|_=>True)->SOut κ E F H D (d F.s F.h)->zo κ E d D σ H:=fun _ o=>⟨F,rel,ht,o⟩
 cases q:F.s[i]? with
 |none=>rw[q]at o same;exact same trivial o
 |some z=>
  rw[q]at o same
  match z,q,o,same with
  |none,q,o,same=>exact same trivial o
  |some (.v x),q,o,same=>exact same trivial o
  |some (.m c),q,o,same=>
   cases z:c.fz with
   |none=>simp only[z]at o;exact o.elim
   |some x=>
    simp only[z]at o;obtain⟨v,h1,a,h2,h3,h4⟩:=rel.slot i _ q;subst h3;have hi:i<F.s.length:=(Av.mp q).1;have rt:=Rel.take (c:=c) rel h2;have rep:Rep κ F.β (F.setN i).O H x (.ref a):=(h4.sub (O':=(F.setN i).O) fun b hb=>Dt hb).fz z rt.offp rt.apart
    have r2:=(rel.setN (i:=i)).setV (i:=i) (x:=x) (v:= .ref a) rep (by show i<(F.s.set i none).length;rw[Ba];exact hi)
    have e1:(F.setN i).setV i x=F.setV i x:=by
     show ({F with s:=(F.s.set i none).set i _,l:=(F.l.set i none).set i none}:Fr)={F with s:=F.s.set i _,l:=F.l.set i none}
     rw[List.set_set,List.set_set]
    have e2:σ.set i (some (.ref a))=σ:=by
     apply List.ext_getElem?;intro j
     rw[Bj]
     by_cases hj:i=j
     .subst hj;rw[Aa rfl,Aa (by rw[<-rel.slen];exact hi),h1]
     .rw[Ab hj]
    rw[e1,e2]at r2;exact⟨F.setV i x,r2,ht,SOut.move (SExt.setN ht) o⟩
def zY {sts:List Stmt} {d:D3} (i:Nat) (h:yj X sts (zo κ E d)):yj X sts (zo κ E (sSeq (sFz i) d)):=PSsw h fun D σ H q=>Me q
def sIf (t:T3) (a b:D3):D3:=fun s h=>(t s h).bindS fun c h1=>if c=true then a s h1 else b s h1
def z5 {c:Expr} {sa sb:List Stmt} {t:T3} {da db:D3} (hc:PT X c (zD κ E t)) (ha:yj X sa (zo κ E da)) (hb:yj X sb (zo κ E db)):PS X (.If c sa sb pos) (zo κ E (sIf t da db)):=qp (Kn hc ha hb) fun D σ H ⟨F,rel,ht,o⟩=>
 (bindS (K:=kT κ) rel ht o).mono fun c H1 ⟨β1,h1,x,e1,⟨ec,r1⟩,o1⟩=>by
  subst ec;have mv:=SExt.of0 (h':=h1) ht e1;cases c with
  |true=>rw[Aa rfl]at o1 ⊢;exact⟨F.to β1 h1,r1,ht,SOut.move mv o1⟩
  |false=>rw[Ab An]at o1 ⊢;exact⟨F.to β1 h1,r1,ht,SOut.move mv o1⟩
def sNever:D3:=fun _ _=>.no
def Eh {st:Stmt}:PS X st (zo κ E sNever):=qp Kp fun D σ H ⟨F,rel,ht,o⟩=>o
abbrev G3:=V3->S3->Option S3
abbrev Gs3:=List V3->S3->Option S3
def gN (i:Nat):G3:=fun x s=>if i<s.length then some (s.set i (some (.v x))) else none
def gsNil:Gs3:=fun xs s=>match xs with
 | []=>some s
 |_=>none
def gsCons (g:G3) (gs:Gs3):Gs3:=fun xs s=>match xs with
 |x::r=>(g x s).bind fun s1=>gs r s1
 | []=>none
def gT (gs:Gs3):G3:=fun x s=>match x with
 |.tup xs=>gs xs s
 |_=>none
def gL (gs:Gs3):G3:=fun x s=>match x with
 |.lst xs=>gs xs s
 |_=>none
def zV (κ:Kx) (g:G3):TG:=fun v σ H Q=> ∃F x s',Rel κ F σ H/\F.T=[]/\Rep κ F.β F.O H x v/\g x F.s=some s'/\∀F' σ',SExt F H F' H->F'.β=F.β->F'.s=s'->F'.h=F.h->Rel κ F' σ' H->Q σ' H
def Du (κ:Kx) (g:Gs3):qe:=fun vs σ H Q=> ∃F xs s',Rel κ F σ H/\F.T=[]/\Reps κ F.β F.O H xs vs/\g xs F.s=some s'/\∀F' σ',SExt F H F' H->F'.β=F.β->F'.s=s'->F'.h=F.h->Rel κ F' σ' H->Q σ' H
def PGw {tg:Expr} {t t':TG} (h:PG X tg t) (w:∀v σ H Q,t' v σ H Q->t v σ H Q):PG X tg t':=fun pins s σ H v u Q I r q=>h pins s σ H v u Q I r (w v σ H Q q)
def PGsw {tg:List Expr} {t t':qe} (h:y4 X tg t) (w:∀v σ H Q,t' v σ H Q->t v σ H Q):y4 X tg t':=fun pins s σ H v u Q I r q=>h pins s σ H v u Q I r (w v σ H Q q)
def HU {a:Addr} {o:HO} (e:SExt F H F' H') (ha:H a=some o) (n: ¬F.O a): ¬F'.O a:=fun z=>by
 rcases z with z|z|z
 .rw[e.tt]at z;cases z
 .rcases e.lam a z with w|w
  .exact n (.inr (.inl w))
  .rw[ha]at w;cases w
 .rw[e.oi]at z;exact n (.inr (.inr z))
def Rep.sext {x:V3} {v:V} (e:SExt F H F' H') (r:Rep κ F.β F.O H x v):Rep κ F'.β F'.O H' x v:=r.ext e.ext (fun a h=>.inr (.inl h)) fun a o ha n=>HU e ha n
def Reps.sext {x:List V3} {v:List V} (e:SExt F H F' H') (r:Reps κ F.β F.O H x v):Reps κ F'.β F'.O H' x v:=r.ext e.ext (fun a h=>.inr (.inl h)) fun a o ha n=>HU e ha n
def HV {tg:Expr} (h:PG X tg (Dm i)):PG X tg (zV κ (gN i)):=PGw h fun v σ H Q ⟨F,x,s',rel,ht,r,e,k⟩=>by
 unfold gN at e
 by_cases hi:i<F.s.length
 .rw[Aa hi]at e;cases e
  exact k (F.setV i x) _ (SExt.setN ht) rfl rfl rfl (rel.setV r hi)
 .rw[Ab hi]at e;cases e
def Dv:y4 X [] (Du κ gsNil):=PGsw Kq fun v σ H Q ⟨F,xs,s',rel,ht,r,e,k⟩=>by
 cases r with
 |nil=>cases e;exact⟨rfl,k F σ (.refl ht) rfl rfl rfl rel⟩
 |cons _ _=>cases e
theorem yR {es:List Expr} {g:G3} {gs:Gs3} (h1:PG X e (zV κ g)) (h2:y4 X es (Du κ gs)) (hh:∀{t:TG} {u:qe},PG X e t->y4 X es u->y4 X (e::es) (Ha t u)):y4 X (e::es) (Du κ (gsCons g gs)):=PGsw (hh h1 h2) fun v σ H Q ⟨F,xs,s',rel,ht,r,e,k⟩=>by
 cases r with
 |nil=>cases e
 | @cons x y xs ys a b=>
  cases q:g x F.s with
  |none=>simp only[gsCons,q]at e;cases e
  |some s1=>
   simp only[gsCons,q]at e
   refine⟨y,ys,rfl,F,x,s1,rel,ht,a,q,fun F1 σ1 e1 b1 s1' h1 r1=>?_⟩
   have e:gs xs s1=some s':=e
   refine⟨F1,xs,s',r1,e1.tt,b.sext e1,by rw[s1'];exact e,fun F2 σ2 e2 b2 s2' h2 r2=>?_⟩
   exact k F2 σ2 (e1.trans e2) (b2.trans b1) s2' (h2.trans h1) r2
def EV {tg:Expr} {gs:Gs3} {n:Nat} (h:PG X tg (gTup X.K n (Du κ gs))) (hn:∀xs s s',gs xs s=some s'->xs.length=n):PG X tg (zV κ (gT gs)):=PGw h fun v σ H Q ⟨F,x,s',rel,ht,r,e,k⟩=>by
 unfold gT at e;cases x<;>first|cases e|skip
 cases r with
 |tup h1 h2 h3 h4=>exact⟨_,_,rfl,.of h1,by rw[<-h4.length];exact hn _ _ _ e,F,_,s',rel,ht,h4,e,k⟩
def HW {tg:Expr} {gs:Gs3} {n:Nat} (h:PG X tg (gLst X.K n (Du κ gs))) (hn:∀xs s s',gs xs s=some s'->xs.length=n):PG X tg (zV κ (gL gs)):=PGw h fun v σ H Q ⟨F,x,s',rel,ht,r,e,k⟩=>by
 unfold gL at e;cases x<;>first|cases e|skip
 cases r with
 |lst h1 h2 h3 h4=>exact⟨_,_,rfl,.of h1,by rw[<-h4.length];exact hn _ _ _ e,F,_,s',rel,ht,h4,e,k⟩
def sAsg (g:G3) (e:E3):D3:=fun s h=>(e s h).bindS fun r h1=>match r.fz with
 |some x=>match g x s with
  |some s1=>.nx s1 h1
  |none=>.no
 |none=>.no
def Mf {d:E3} {g:G3} (h:zo κ E (sAsg g d) D σ H):tAsg (zg κ E d) (zV κ g) D σ H:=by
 obtain⟨F,rel,ht,o⟩:=h
 refine (bindS (K:=kE κ) rel ht o).mono fun v H1 ⟨β1,h1,r,e1,p1,o⟩=>?_
 cases z:r.fz with
 |none=>simp only[z]at o;exact o.elim
 |some x=>
  simp only[z]at o;cases w:g x F.s with
  |none=>rw[w]at o;exact o.elim
  |some s1=>
   rw[w]at o;obtain⟨r1,r2⟩:=Post.fz p1 z;exact⟨F.to β1 h1,x,s1,r1,ht,r2,w,fun F' σ' e' b' s' h' r'=>o F' σ' H1 ((SExt.of0 (h':=h1) ht e1).trans e') s' h' r'⟩
def HX {tg:Expr} {d:E3} {g:G3} (he:PE X e (zg κ E d)) (hg:PG X tg (zV κ g)) (hh:∀{te:TE} {g:TG},PE X e te->PG X tg g->PS X (.Assign [tg] e pos) (tAsg te g)):PS X (.Assign [tg] e pos) (zo κ E (sAsg g d)):=qp (hh he hg) fun D σ H h=>Mf h
end
structure It3 where
 its:List V3
 xs:List V3
 ok:H3->Prop
def IR (κ:Kx) (it:It3) (vs:List V) (J:It):Prop:=∀(F:Fr) (σ:St) (H:Hp),Rel κ F σ H->Reps κ F.β F.O H it.its vs->it.ok F.h->∀i:Nat,
 (i<it.xs.length->J.go i H/\∀x H',J.yld i H x H'->∃x3,it.xs[i]? =some x3/\Ext No F.β H F.β H'/\Rel κ F σ H'/\Rep κ F.β F.O H' x3 x)/\(it.xs.length<=i->J.stop i H)
abbrev I3:=S3->H3->Res It3
def kI (κ:Kx):Kd It3 It:=fun _ F σ H' it J=>Rel κ F σ H'/\∃vs,Reps κ F.β F.O H' it.its vs/\IR κ it vs J
abbrev ya (κ:Kx) (E:XK) (d:I3):TI:=tOf κ E (kI κ) d
open Classical in
def zC (ok:H3->Prop) (g:G3) (b:D3):List V3->S3->H3->O3
 | [],s,h=>if ok h then .nx s h else .no
 |x::r,s,h=>if ok h then match g x s with
  |none=>.no
  |some s1=>match b s1 h with
   |.nx s2 h2=>zC ok g b r s2 h2
   |.ct s2 h2=>zC ok g b r s2 h2
   |.bk s2 h2=>.nx s2 h2
   |o=>o
  else .no
def zx (it:I3) (g:G3) (b:D3):D3:=fun s h=>(it s h).bindS fun I h1=>zC I.ok g b I.xs s h1
open Classical in
section
variable {X:Cx} {κ:Kx} {E:XK} {F F1 F2 F':Fr} {σ σ':St} {H H1 H2 H':Hp} {Q:VK} {p:Addr} {e a b:Expr} {pos:Pos} {i:Nat} {D:Ends}
def km_I:BD (kI κ):=fun _ _ _ _ _ _ _ _ _ _ _ h=>h
theorem Mg {it:I3} {g:G3} {b:D3} (h:zo κ E (zx it g b) D σ H):tFor (ya κ E it) (zV κ g) (zo κ E b) D σ H:=by
 obtain⟨F,rel,ht,o⟩:=h
 refine (bindS (K:=kI κ) rel ht o).mono fun J H1 ⟨β1,h1,I,e1,⟨r1,vs,rv,ir⟩,o1⟩=>?_
 refine⟨fun i m σ H=>m=I.xs.length-i/\i<=I.xs.length/\∃Fk,Rel κ Fk σ H/\Fk.T=[]/\Reps κ Fk.β Fk.O H I.its vs/\SOut κ E Fk H D (zC I.ok g b (I.xs.drop i) Fk.s Fk.h),⟨_,rfl,By _,F.to β1 h1,r1,ht,rv,SOut.move (SExt.of0 (h':=h1) ht e1) o1⟩,?_⟩
 rintro i m σ' H' ⟨rfl,hi,Fk,rk,tk,vk,ok⟩
 by_cases hok:I.ok Fk.h
 case neg=>
  exfalso
  cases q:I.xs.drop i with
  |nil=>rw[q]at ok;unfold zC at ok;rw[Ab hok]at ok;exact ok
  |cons x r=>rw[q]at ok;unfold zC at ok;rw[Ab hok]at ok;exact ok
 obtain⟨i1,i2⟩:=ir Fk σ' H' rk vk hok i
 by_cases hlt:i<I.xs.length
 .obtain⟨go,yl⟩:=i1 hlt
  refine .inr ⟨go,fun σ2 H2=> ∃F2,Rel κ F2 σ2 H2/\F2.T=[]/\Reps κ F2.β F2.O H2 I.its vs/\SOut κ E F2 H2 D (zC I.ok g b (I.xs.drop (i+1)) F2.s F2.h),fun σ2 H2 n2=>⟨_,by lia,rfl,hlt,n2⟩,fun x H'' y=>?_⟩
  obtain⟨x3,ex,ey,ry,rp⟩:=yl x H'' y;have hd:I.xs.drop i=x3::I.xs.drop (i+1):=by
   rw[Cg hlt]
   congr 1
   rw[z8 hlt]at ex;exact Option.some.inj ex
  rw[hd]at ok;have ok:=SOut.move (SExt.of0 (h':=Fk.h) tk ey) ok;unfold zC at ok;rw[Aa hok]at ok;cases w:g x3 Fk.s with
  |none=>simp only[w]at ok;exact ok.elim
  |some s1=>
   simp only[w]at ok
   refine⟨Fk,x3,s1,ry,tk,rp,w,fun F3 σ3 e3 b3 s3 h3 r3=>?_⟩
   refine⟨F3,r3,e3.tt,?_⟩
   rw[s3,h3];have ok:=SOut.move e3 ok;have ev:Reps κ F3.β F3.O H'' I.its vs:=(vk.ext0 ey).sext e3;cases q:b s1 Fk.h with
   |nx s2 h2=>simp only[q]at ok;exact fun F4 σ4 H4 e4 s4 h4 r4=>⟨F4,r4,e4.tt,ev.sext e4,by rw[s4,h4];exact SOut.move e4 ok⟩
   |ct s2 h2=>simp only[q]at ok;exact fun F4 σ4 H4 e4 s4 h4 r4=>⟨F4,r4,e4.tt,ev.sext e4,by rw[s4,h4];exact SOut.move e4 ok⟩
   |bk s2 h2=>simp only[q]at ok;exact ok
   |rt r h2=>simp only[q]at ok;exact ok
   |ex x h2=>simp only[q]at ok;exact ok
   |no=>simp only[q]at ok;exact ok
 .have hi:i=I.xs.length:=by lia
  subst hi;rw[B1]at ok;unfold zC at ok;rw[Aa hok]at ok;exact .inl ⟨i2 (Ac _),ok Fk σ' H' (.refl tk) rfl rfl rk⟩
def Mh {tg iter:Expr} {body:List Stmt} {it:I3} {g:G3} {b:D3} (hp:PassesOwn (model X.prog X.w) X.A X.env X.xe) (hc:X.calm=true) (hi:PI X tg iter (ya κ E it)) (hg:PG X tg (zV κ g)) (hb:yj X body (zo κ E b))
 (hs:∀x,foldedSetIterable iter X.env x=pure x:=by intro _;rfl):PS X (.For tg iter body [] pos) (zo κ E (zx it g b)):=qp (K2 hp hc hi hg hb hs) fun D σ H h=>Mg h
def yM (h:H3):V3->Option (List V3×(H3->Prop))
 |.lst xs=>some (xs,fun _=>True)
 |.scr ns=>some (ns.map .int,fun _=>True)
 |.loc n=>match h[n]? with
  |some (.lst xs)=>some (xs,fun h=>h[n]? =some (.lst xs))
  |_=>none
 |_=>none
def Mi {F:Fr} {σ:St} {H:Hp} {x:V3} {xs:List V3} {v:V} (rel:Rel κ F σ H) (r:Rep κ F.β F.O H x v) (e:rdl F.s F.h (.x x)=some xs):∃a ys,v=.ref a/\SqL κ.K H a ys/\Reps κ F.β F.O H xs ys:=BE (f:= .x x) rel r e
def Dw {h:H3} {x:V3} {xs:List V3} {ok:H3->Prop} (e:yM h x=some (xs,ok)):ok h/\∀s h',ok h'->rdl s h' (.x x)=some xs:=by
 cases x<;>simp[yM]at e
 case lst zs=>obtain⟨rfl,rfl⟩:=e;exact⟨trivial,fun _ _ _=>rfl⟩
 case scr ns=>obtain⟨rfl,rfl⟩:=e;exact⟨trivial,fun _ _ _=>rfl⟩
 case loc n=>
  cases q:h[n]? with
  |none=>rw[q]at e;cases e
  |some c=>
   rw[q]at e;cases c<;>simp at e
   obtain⟨rfl,rfl⟩:=e;exact⟨q,fun s h' hh=>by simp only[rdl,hh]⟩
def Ei {F:Fr} {σ:St} {H:Hp} {h:H3} {x:V3} {xs:List V3} {ok:H3->Prop} {v:V} (e:yM h x=some (xs,ok)) (rel:Rel κ F σ H) (r:Rep κ F.β F.O H x v) (hk:ok F.h):∃a ys,v=.ref a/\SqL κ.K H a ys/\Reps κ F.β F.O H xs ys:=Mi rel r ((Dw e).2 _ _ hk)
def PIw {tg iter:Expr} {t t':TI} (h:PI X tg iter t) (w:∀σ H R,t' σ H R->t σ H R):PI X tg iter t':=fun pins s σ H R I q=>h pins s σ H R I (w σ H R q)
def iL (p:P3):I3:=fun s h=>(p s h).bind fun f h1=>match f with
 |.x x=>match yM h1 x with
  |some (xs,ok)=>.ok ⟨[x],xs,ok⟩ h1
  |none=>.no
 |_=>.no
def Mj {tg l:Expr} {d:P3} (hK:X.K=κ.K) (hl:PE X l (zh κ E d)):PI X tg l (ya κ E (iL d)):=PIw (Kv hl) fun σ H R ⟨F,rel,o⟩=>
 (zG (K:=kP κ) km_I rel o).mono fun v H1 ⟨β1,h1,f,e1,⟨r1,rf⟩,o1⟩=>by
  rw[hK]
  match f,rf,o1 with
  |.s _,rf,o1=>exact o1.elim
  |.x x,rf,o1=>
   cases q:yM h1 x with
   |none=>simp only[q]at o1;exact o1.elim
   |some w=>
    obtain⟨xs,ok⟩:=w;simp only[q]at o1;have rf:Rep κ β1 F.O H1 x v:=rf;obtain⟨a,ys,ev,sq,rs⟩:=Ei (F:=F.to β1 h1) q r1 rf (Dw q).1;subst ev
    refine⟨a,rfl,⟨ys,sq⟩,o1 β1 _ H1 Ext.refl ⟨r1,[.ref a],.cons rf .nil,fun F' σ' H' rel' r' hk i=>?_⟩⟩
    cases r' with
    |cons r'' _=>
     obtain⟨a',ys',ev',sq',rs'⟩:=Ei q rel' r'' hk;cases ev'
     refine⟨fun hi=>⟨?_,fun y H' ⟨e,yl⟩=>?_⟩,fun hi=>⟨ys',sq',by rw[<-rs'.length];exact hi⟩⟩
     .obtain⟨y,hy,_⟩:=rs'.get (i:=i) (z8 hi)
      exact⟨ys',y,sq',hy⟩
     .subst e
      obtain⟨x3,h1,h2⟩:=rs'.get' (yl ys' sq');exact⟨x3,h1,Ext.refl,rel',h2⟩
end
end L3
namespace L2
open PySem PySem.Spec PyProof.Rows
def Trc (h:Heap) (a T:Addr) (cls a0:Value):Prop:=
 ∃oe vs oT ts,h.get? a=some oe/\(oe.cls=cls/\vs[0]? =some a0)/\oe.data=.fields vs/\vs[1]? =some (.ref T)/\T≠a/\h.get? T=some oT/\oT.data=.fields ts/\ts[3]? =some .none
structure Left (l:List Env) (hid:List Addr) (a T':Addr) (cls a0:Value) (h h':Heap):Prop where
 keep:∀b o,h.get? b=some o->b∉hid->h'.get? b=some o
 slot:∀b o,h.get? b=some o->b∈yg l->∃sl,h'.get? b=some {o with slots:=sl}
 trc:Trc h' a T' cls a0
 new:∀b o,h.get? b=some o->b∉hid->b≠T'
 nfr:T'∉yg l
section
variable {M:Model} {A:Around} {E:VP} {s:Shared} {base:Heap} {env:Env} {outer:List Env} {L a T:Addr} {cls a0:Value} {Q:Unit->Shared->Prop}
def Mk {l:List Env}:∀env∈l,∀b,env.frame=some b->b∈yg l:=fun env he b hb=>B8.mpr ⟨env,he,hb⟩
def Ml {l:List Env} {hid:List Addr} {h h':Heap} (hf:∀b∈yg l,b∈hid) (hl:h.FunFrames base l) (x:Heap.LeftW (PySem.W.hideAll h hid) l a cls a0 h h'):∃T',Left l hid a T' cls a0 h h':=by
 obtain⟨x1,x2,x3,x4⟩:=x;obtain⟨oe,vs,T',oT,ts,t1,t2,t3,t4,t5,t6,t7,t8,t9⟩:=x3;have kp:∀b o,h.get? b=some o->b∉hid->(PySem.W.hideAll h hid).get? b=some o:=fun b o e n=>PySem.W.hideAll_get hid e n
 refine⟨T',fun b o e n=>x1 b o (kp b o e n),fun b o e hb=>?_,⟨oe,vs,oT,ts,t1,t2,t3,t4,t6,t7,t8,t9⟩,fun b o e n z=>?_,fun hb=>?_⟩
 .refine x4 b o e fun vs hv=>?_
  obtain⟨_,o',ho',hn⟩:=hl.mem hb;rw[e]at ho';cases ho';exact hn vs hv
 .have:=kp b o e n
  rw[z,t5]at this;cases this
 .obtain⟨_,o',ho',hn⟩:=x2.mem hb
  rw[t7]at ho';cases ho';exact hn ts t8
def Mm (hfr:A.frames=some (env::outer)) (hl:s.heap.FunFrames base (env::outer)) (hf:env.frame=some L) (tr:Trc s.heap a T cls a0)
  (hQ:∀h' T',Left (env::outer) (a::T::yg (env::outer)) a T' cls a0 s.heap h'->Q () {s with heap:=h'}):wpAny M A (leaving env (.ref a)) Q E s:=by
 obtain⟨oe,vs,oT,ts,t1,t2,t3,t4,t6,t7,t8,t9⟩:=tr;have hid:∀b∈yg (env::outer),b∈a::T::yg (env::outer):=fun b hb=>.tail _ (.tail _ hb)
 refine wpAny_leaving_nextW (base:=PySem.W.hideAll s.heap (a::T::yg (env::outer))) (cls:=cls) (a0:=a0) hfr (PySem.W.funFrames_hide hl fun e he b hb=>hid b (Mk e he b hb)) hf
  ⟨oe,vs,T,oT,ts,t1,t2,t3,t4,C4 _ (.tail _ (.head _)),t6,t7,t8,t9⟩ (fun b o q=>PySem.W.of_hideAll _ q) (C4 _ (.head _)) fun h' x=>?_
 obtain⟨T',y⟩:=Ml hid hl x;exact hQ h' T' y
end
def HOk.there {P:Program} {w:World} {H:Hp} {h:Heap} {a:Addr} {o:HO} (x:HOk P w H h) (q:H a=some o):∃ob,h.get? a=some ob:=by
 have this:=x a o q;cases e:h.get? a with
 |some ob=>exact⟨ob,rfl⟩
 |none=>
  exfalso
  cases o with
  |lst xs=>obtain⟨_,_,_,_,z⟩:=this;rw[e]at z;cases z
  |tup xs=>obtain⟨_,_,_,o1,z,_⟩:=this;rw[e]at z;cases z
  |dK kvs=>obtain⟨_,_,_,_,o,_,_,z,_⟩:=this;rw[e]at z;cases z
  |dT kvs=>obtain⟨_,_,_,_,o,_,_,z,_⟩:=this;rw[e]at z;cases z
  |set S n=>obtain⟨o,_,_,_,z,_⟩:=this;rw[e]at z;cases z
  |ins C dx fs=>obtain⟨_,_,_,z,_⟩:=this;rw[e]at z;cases z
  |own y=>obtain⟨_,z⟩:=this;rw[e]at z;cases z
  |xd fs=>obtain⟨_,⟨_,_,_,z,_⟩,_⟩:=this;rw[e]at z;cases z
  |rng lo hi=>obtain⟨_,_,_,z⟩:=this;rw[e]at z;cases z
  |frz ob u=>obtain⟨z,_⟩:=this;rw[e]at z;cases z
  |tbl ps=>have z:h.get? a=some _:=this;rw[e]at z;cases z
  |met f y=>have z:h.get? a=some _:=this;rw[e]at z;cases z
  |ext φ=>obtain⟨_,⟨_,z⟩,_⟩:=this;rw[e]at z;cases z
def XT (P:Program) (w:World):qq:=fun outer H s E e s'=> ∃(a T:Addr) (cls a0:Value) (H':Hp),e=.ref a/\s'.os=s.os/\AllBare s'.gens/\Un (yg outer) [] H H' s.heap s'.heap/\HOk P w H' s'.heap/\
 s.heap.get? a=none/\s.heap.get? T=none/\H' a=none/\H' T=none/\Trc s'.heap a T cls a0/\E cls none H'
section
variable {P:Program} {w:World} {K:FG} {mg:Str->Option Value} {base:Heap} {N:List Str} {qual:Str} {scope:Scope} {f:Addr} {cd:Value} {A:Around} {outer:List Env} {s0:Shared} {H0:Hp} {E:XK}
def Inv.left {X:Cx} {pins:AL} {σ:St} {H:Hp} {s:Shared} {hid:List Addr} {a T':Addr} {cls a0:Value} {h':Heap} (hst:X.stack=X.env::X.outer) (hex:X.ex=[]) (I:Inv X pins σ H s) (y:Left X.stack hid a T' cls a0 s.heap h')
  (hh:∀b∈hid,(b∈yg X.stack\/X.s₀.heap.get? b=none)/\H b=none):
  Un X.fs [] X.H₀ H X.s₀.heap h'/\HOk X.prog X.w H h'/\X.s₀.heap.get? T'=none/\H T'=none:=by
 have hfo:∀b o,X.s₀.heap.get? b=some o->b∉X.fs->b∉yg X.stack:=fun b o e n hb=>by
  rcases Ai.mp (I.stkSub b hb) with z|z
  .have h1:=Ae e
   have h2:=I.ok.above;rw[z]at h1;exact absurd (Au h1 h2) (Bm _)
  .exact n z
 have nh:∀b o,X.s₀.heap.get? b=some o->b∉X.fs->b∉hid:=fun b o e n hb=>by
  rcases (hh b hb).1 with z|z
  .exact hfo b o e n z
  .rw[e]at z;cases z
 have fsub:∀b∈X.fs,b∈yg X.stack:=fun b hb=>by
  rw[hst];obtain⟨v,hv,e⟩:=B8.mp hb;exact B8.mpr ⟨v,.tail _ hv,e⟩
 have U:=I.base;rw[hex]at U;have no:∀b:Addr,b∉([]:List Addr):=fun b z=>nomatch z
 have anyway:∀b o,s.heap.get? b=some o->(b∉hid\/b∈yg X.stack)->∃o',h'.get? b=some o':=fun b o e d=>by
  rcases d with d|d
  .exact⟨o,y.keep b o e d⟩
  .obtain⟨sl,q⟩:=y.slot b o e d
   exact⟨_,q⟩
 refine⟨⟨fun b o e n hb _=>y.keep b o (U.keep b o e n hb (no b)) (nh b o e hb),fun b o e n hb _=>?_,U.free,fun b o e _=>?_,U.tups,U.frzs,U.tbls⟩,fun b o e=>?_,?_,?_⟩
 .obtain⟨sl,q⟩:=U.slot b o e n hb (no b)
  obtain⟨sl',q'⟩:=y.slot b _ q (fsub b hb);exact⟨sl',q'⟩
 .obtain⟨o',q⟩:=U.there b o e (no b)
  refine anyway b o' q ?_
  by_cases z:b∈X.fs
  .exact .inr (fsub b z)
  .exact .inl (nh b o e z)
 .refine (I.hok b o e).stay (fun c u hc ec=>y.keep c u ec fun hm=>?_) (fun _ z=>z) fun _ _ z=>z
  have:=(hh c hm).2
  rcases hc with z|z
  .rw[z,e]at this;cases this
  .rw[z]at this;cases this
 .cases q:X.s₀.heap.get? T' with
  |none=>rfl
  |some o=>
   exfalso
   obtain⟨o',q'⟩:=U.there T' o q (no T')
   by_cases z:T'∈X.fs
   .exact y.nfr (fsub _ z)
   .exact y.new T' o' q' (nh T' o q z) rfl
 .cases q:H T' with
  |none=>rfl
  |some o=>
   exfalso
   obtain⟨ob,hob⟩:=I.hok.there q
   refine y.new T' ob hob (fun hm=>?_) rfl
   have:=(hh T' hm).2;rw[q]at this;cases this
def Mn:CL (XT P w) (cxOf (XT P w) P w K mg base N qual scope f cd A outer s0 H0 E) E:=by
 intro pins σ H s e s' I hx;obtain⟨a,T,cls,a0,H',rfl,os,bare,un,hok,na,nT,ha,hT,tr,q⟩:=hx;have I':Inv (cxOf (XT P w) P w K mg base N qual scope f cd A outer s0 H0 E) pins σ H' s':=I.call' os un hok bare fun b z=>nomatch z
 have old:∀b,s.heap.get? b=none->s0.heap.get? b=none:=fun b e=>by
  cases z:s0.heap.get? b with
  |none=>rfl
  |some o=>
   obtain⟨o',q'⟩:=I.base.there b o z fun y=>nomatch y
   rw[e]at q';cases q'
 refine Mm (base:=base) (L:=s0.heap.objs.size) I'.ok.frames I'.stack rfl tr fun h' T' y=>?_
 obtain⟨u,hk,n1,n2⟩:=I'.left rfl rfl y fun b hb=>by
  rcases Ai.mp hb with z|hb
  .rw[z];exact⟨.inr (old a na),ha⟩
  .rcases Ai.mp hb with z|hb
   .rw[z];exact⟨.inr (old T nT),hT⟩
   .exact⟨.inl hb,I'.stkFree b hb⟩
 exact⟨a,T',cls,a0,H',rfl,I'.os,I'.bare,u,hk,old a na,n1,ha,n2,y.trc,q⟩
end
def Fun.okX {P:Program} {w:World} {K:FG} {mg:Str->Option Value} {base:Heap} {x qual:Str} {st:Stmt} {f:Addr} {fd:FuncData} {N ps:List Str} {k:Nat} {sp:Sp} (F:Fun K x qual st f fd) (S:FnScope N ps (zy st)) (len:∀vs H Q E,sp vs H Q E->vs.length=ps.length)
  (hbody:∀(cdv:Value) (A:Around) (outer:List Env) (s:Shared) (H:Hp) (vs:List V) (Q:VK) (E:XK),Room k (A.deeper (envOfC qual (zy st) s.heap.objs.size f cdv))->sp vs H Q E->
   ∃t,yj (cxOf (XT P w) P w K mg base N qual (zy st) f cdv A outer s H E) (BR st) t/\t {nx:=fun _ H'=>Q .non H',rt:=Q} (start N vs) H):FnOk P w K mg base (XT P w) (k+1) f fd ps sp:=by
 obtain⟨oc,od,kV,doc,pm,an,cdv,ct,osl,rfl,lk,hcd⟩:=F.ex;exact KZ lk hcd S len fun A outer s H vs Q E hr hsp=>hbody cdv A outer s H vs Q E hr hsp
end L2
namespace L3
open PySem PySem.Spec PyProof.Rows L2
abbrev F3:=List V3->H3->Res Vl
def start3 (n:Nat) (vs:List V3):S3:=vs.map (fun x=>some (.v x))++List.replicate (n-vs.length) none
def O3.res:O3->Res Vl
 |.nx _ h=>.ok (.v .non) h
 |.rt r h=>.ok r h
 |.ex x h=>.ex x h
 |_=>.no
def fun3 (k n:Nat) (b:D3):F3:=fun vs h=>if vs.length=k then (b (start3 n vs) h).res else .no
def Mo (κ:Kx) (N:Addr->Prop) (O:Addr->Prop) (β:AO) (h:H3) (H:Hp):Vl->V->Prop
 |.v x,v=>RelH κ O β h H/\Rep κ β O H x v
 |.m c,v=> ∃p,v=.ref p/\RelH κ (fun a=>a=p\/O a) β h H/\CellR κ β (fun a=>a=p\/O a) H c p/\N p/\¬O p
def FOut (κ:Kx) (E:XK) (O:Addr->Prop) (β:AO) (H:Hp) (Q:VK):Res Vl->Prop
 |.ok r h'=> ∀β' v H',Ext No β H β' H'->Mo κ (Nw H) O β' h' H' r v->Q v H'
 |.ex x h'=> ∀β' H',Ext No β H β' H'->RelH κ O β' h' H'->XOk κ E x H'
 |.no=>False
def zn (κ:Kx) (k:Nat) (f:F3):Sp:=fun vs H Q E=> ∃O β vs3 h3,vs.length=k/\RelH κ O β h3 H/\Reps κ β O H vs3 vs/\FOut κ E O β H Q (f vs3 h3)
section
variable {X:Cx} {κ:Kx} {E:XK} {F F1 F2 F':Fr} {σ σ':L2.St} {H H1 H2 H':Hp} {Q:VK} {p:Addr} {e a b o:Expr} {pos apos np:Pos} {i:Nat} {D:Ends}
def qr {a:Addr} {n:Nat}:some a∉List.replicate n (none:Option Addr):=fun h=>by cases (List.mem_replicate.mp h).2
def Mp {n:Nat} {vs3:List V3} {i:Nat} {x:Vl} (h:(start3 n vs3)[i]? =some (some x)):∃y,vs3[i]? =some y/\x=.v y:=by
 unfold start3 at h
 by_cases hi:i<vs3.length
 .rw[Az (by simpa using hi),A8]at h
  cases q:vs3[i]? with
  |none=>rw[q]at h;cases h
  |some y=>rw[q]at h;cases h;exact⟨y,rfl,rfl⟩
 .rw[Bg (by simpa using hi)]at h
  have:=List.mem_replicate.mp (Aj h);cases this.2
def Mq {O:Addr->Prop} {β:AO} {vs3:List V3} {vs:List V} {h3:H3} {N:List Str} (rh:RelH κ O β h3 H) (rv:Reps κ β O H vs3 vs) (hN:vs.length<=N.length):
  Rel κ ⟨O,[],β,List.replicate N.length none,start3 N.length vs3,h3⟩ (L2.start N vs) H:=by
 have hO:∀a,(⟨O,[],β,List.replicate N.length none,start3 N.length vs3,h3⟩:Fr).O a->O a:=fun a ha=>by
  rcases ha with z|z|z
  .cases z
  .exact absurd z qr
  .exact z
 have hl:=rv.length
 refine⟨rh.sub hO,?_,?_,fun i j a h=>?_,fun a ha=>absurd ha qr,fun a ha=>absurd ha qr,fun a ha=>(by cases ha),List.nodup_nil,fun i x hx=>?_⟩
 .show (start3 N.length vs3).length=_
  unfold start3 L2.start;simp only[Ar,Ad,Bw];lia
 .show (List.replicate N.length (none:Option Addr)).length=(start3 N.length vs3).length
  unfold start3;simp only[Ar,Ad,Bw];lia
 .exact absurd (Aj h) qr
 .obtain⟨y,hy,rfl⟩:=Mp hx
  obtain⟨v,hv,r⟩:=rv.get hy
  refine⟨v,?_,Rep.sub hO r⟩
  unfold L2.start;have hi:i<vs.length:=(Av.mp hv).1;rw[Az (by simpa using hi),A8,hv];rfl
def z0 {P:Program} {w:World} {K:FG} {mg:Str->Option Value} {base:Heap} {x qual:Str} {st:Stmt} {f:Addr} {fd:FuncData} {N ps:List Str} {k:Nat} {b:D3} (Fn:Fun K x qual st f fd) (S:FnScope N ps (zy st))
  (hb:∀(cdv:Value) (A:Around) (outer:List Env) (s:Shared) (H:Hp) (E:XK),Room k (A.deeper (envOfC qual (zy st) s.heap.objs.size f cdv))->
   yj (cxOf (XT P w) P w K mg base N qual (zy st) f cdv A outer s H E) (BR st) (zo κ E b)):FnOk P w K mg base (XT P w) (k+1) f fd ps (zn κ ps.length (fun3 ps.length N.length b)):=by
 refine Fn.okX S (fun vs H Q E h=>?_) fun cdv A outer s H vs Q E hr h=>?_
 .obtain⟨_,_,_,_,h,_⟩:=h;exact h
 .obtain⟨O,β,vs3,h3,hl,rh,rv,o⟩:=h
  have hpl:ps.length<=N.length:=by have:=congrArg List.length S.pre;rw[B3]at this;lia
  have rel:=Mq (N:=N) rh rv (by lia)
  refine⟨zo κ E b,hb cdv A outer s H E hr,_,rel,rfl,?_⟩
  unfold fun3 at o;rw[Aa (by rw[rv.length];exact hl)]at o
  generalize hF:(⟨O,[],β,List.replicate N.length none,start3 N.length vs3,h3⟩:Fr)=F0 at rel;have e0:F0.s=start3 N.length vs3/\F0.h=h3/\F0.β=β/\F0.Oi=O/\∀a,some a∉F0.l:=by subst hF;exact⟨rfl,rfl,rfl,rfl,fun a=>qr⟩
  obtain⟨es,eh,eb,eo,el⟩:=e0;rw[es,eh];have ext:∀{F':Fr} {H':Hp},SExt F0 H F' H'->Ext No β H F'.β H':=fun {F' H'} se=>⟨fun a u h n _=>se.ext.keep a u h (by rw[eb];exact n) (el a),by rw[<-eb];exact se.ext.len,fun i a hi h=>by
   have:=se.ext.bet i a (by rw[eb];exact hi) h
   rw[eb]at this;exact this,se.ext.there,fun i a hi h=>se.ext.nwb i a (by rw[eb];exact hi) h⟩
  have hO:∀{F':Fr} {H':Hp},SExt F0 H F' H'->∀a,O a->F'.O a:=fun {F' H'} se a ha=>.inr (.inr (by rw[se.oi,eo];exact ha))
  cases q:b (start3 N.length vs3) h3 with
  |nx s1 h1=>
   rw[q]at o;exact fun F' σ' H' se _ h' r'=>o F'.β .non H' (ext se) ⟨by rw[<-h'];exact r'.heap.sub (hO se),.non⟩
  |rt r h1=>
   rw[q]at o;intro F' σ' v H' se h' p
   refine o F'.β v H' (ext se) ?_
   cases r with
   |v x=>exact⟨by rw[<-h'];exact p.1.heap.sub (hO se),Rep.sub (hO se) p.2⟩
   |m c=>
    obtain⟨p,h1,h2,h3',h4⟩:=p;have hs:∀a,a=p\/O a->(F'.with p).O a:=fun a ha=>ha.elim (fun z=>.inl (by rw[z];exact Ak)) fun z=>Fr.O_with (hO se a z)
    refine⟨p,h1,by rw[<-h'];exact h2.heap.sub hs,h3'.sub hs,h4.elim (fun z=>absurd z (el p)) id,fun z=>h2.apart (hO se p z)⟩
  |bk s1 h1=>rw[q]at o;exact (show False from o).elim
  |ct s1 h1=>rw[q]at o;exact (show False from o).elim
  |no=>rw[q]at o;exact o
  |ex x h1=>
   rw[q]at o;intro F' H' se r';exact o F'.β H' (ext se) (by rw[se.oi,eo]at r';exact r')
def Rel.nextNew {β':AO} {h':H3} (r:Rel κ F σ H) (e:Ext No F.β H β' H') (rh:RelH κ (fun a=>a=p\/F.O a) β' h' H') (hp:H p=none):Rel κ ((F.to β' h').with p) σ H':=by
 have n2: ¬F.O p:=(r.heap.off_new hp).2;have ho:∀a,((F.to β' h').with p).O a->a=p\/F.O a:=fun a ha=>by
  rcases ha with z|z
  .rcases Ai.mp z with z|z
   .exact .inl z
   .exact .inr (.inl z)
  .exact .inr (.inr z)
 have hO:∀a u,H a=some u->¬F.O a->¬((F.to β' h').with p).O a:=fun a u ha n z=>(ho a z).elim (fun w=>by subst w;rw[hp]at ha;cases ha) n
 refine⟨rh.sub ho,r.slen,r.llen,r.linj,fun a ha z=>?_,r.lo,fun a ha z=>?_,Be.mpr ⟨fun z=>n2 (.inl z),r.tn⟩,fun i x q=>?_⟩
 .rcases Ai.mp z with z|z
  .subst z;exact n2 (.inr (.inl ha))
  .exact r.lt a ha z
 .rcases Ai.mp ha with h|h
  .subst h;exact n2 (.inr (.inr z))
  .exact r.to a h z
 .obtain⟨v,h1,h2⟩:=r.slot i x q
  refine⟨v,h1,?_⟩
  cases x with
  |v x=>exact Rep.ext e (fun _ z=>z.elim) hO h2
  |m c=>
   obtain⟨a,a1,a2,a3⟩:=h2;have ha:F.O a:= .inr (.inl (Aj a1));exact⟨a,a1,a2,a3.ext e (fun _ z=>z.elim) hO fun u hu=>(e.keep a u hu (r.heap.off a ha) fun z=>z).1⟩
def FOut.of {r:Res Vl} (rel:Rel κ F σ H) (o:Out κ E (kE κ) F σ H Q r):FOut κ E F.O F.β H Q r:=by
 cases r with
 |no=>exact o
 |ex x h'=>exact fun β' H' e r'=>o β' H' e (r'.sub fun a ha=>.inr (.inr ha))
 |ok r h'=>
  intro β' v H' e q
  refine o β' v H' e ?_
  cases r with
  |v x=>exact⟨rel.next e q.1,q.2⟩
  |m c=>
   obtain⟨p,h1,h2,h3,h4,h5⟩:=q;have ho:∀a,((F.to β' h').with p).O a->a=p\/F.O a:=fun a ha=>by
    rcases ha with z|z
    .rcases Ai.mp z with z|z
     .exact .inl z
     .exact .inr (.inl z)
    .exact .inr (.inr z)
   exact⟨p,h1,rel.nextNew e h2 h4,h3.sub ho,h4⟩
def eCall (f:F3) (a:A3):E3:=fun s h=>(a s h).bind fun fs h1=>match vals3 fs with
 |some vs=>f vs h1
 |none=>.no
def zq (f:F3) (k:Nat):Prop:=∀vs h,vs.length≠k->f vs h=.no
def zv {k n:Nat} {b:D3}:zq (fun3 k n b) k:=fun vs h e=>Ab e
def Mr {f:F3} {t:A3} {k:Nat} (hf:zq f k) (h:zg κ E (eCall f t) σ H Q):Hj (zn κ k f) [] E (zK κ E t) σ H Q:=by
 obtain⟨F,rel,o⟩:=h
 refine (zG (K:=kA κ) zu rel o).mono fun vs H1 ⟨β1,h1,fs,e1,⟨r1,rf1⟩,o1⟩=>?_
 cases q:vals3 fs with
 |none=>simp only[q]at o1;exact o1.elim
 |some xs=>
  simp only[q]at o1;have hr:=Ds rf1 q;rw[Ca]
  refine⟨F.O,β1,xs,h1,?_,r1.heap,hr,FOut.of r1 o1⟩
  refine Classical.byContradiction fun n=>?_
  rw[hf xs h1 (by rw[hr.length];exact n)]at o1
  exact o1
def AN {x:Str} {es:List Expr} {f:F3} {t:A3} {k:Nat} {fa:Addr} {fd:FuncData} {ps:List Str} {n:Nat} (hf:zq f n) (Fk:FnOk X.prog X.w X.K X.mg X.base (XT X.prog X.w) k fa fd ps (zn κ n f)) (hr:Room k X.A) (hg:Gl X x) (hm:X.mg x=some (.ref fa)) (hk:PySem.W.keepIn X.K (.ref fa)=true) (hb:Binds X.K fd ps []) (hx:CL (XT X.prog X.w) X E)
 (ha:PA X (e::es) (zK κ E t)) (hdb:(x==("__debug__" :Str))=false:=by decide) (he:SE X e es:=by rfl) (hpl:BA X pos es:=by rfl):
 PE X (.Call (.Name x np) (e::es) [] pos) (zg κ E (eCall f t)):=yh (KW Fk hr hg hm hk hb .nil hx ha hdb he hpl) fun _ _ _ h=>Mr hf h
def BG:CL (XT X.prog X.w) X E0:=fun pins σ H s e s' I h=>by
 obtain⟨_,_,_,_,_,_,_,_,_,_,_,_,_,_,_,q⟩:=h;exact q.elim
end
section
variable {X:Cx} {κ:Kx} {E:XK} {F:Fr} {σ:L2.St} {H H':Hp} {Q:VK} {p:Addr} {pos:Pos} {i:Nat}
def oI (g:Int->Int->Option V3):F2:=fun _ _ x y=>match x,y with
 |.x (.int i),.x (.int j)=>(g i j).map .v
 |_,_=>none
def HY {g:Int->Int->Option V3} {s:S3} {h:H3} {x y:Rf} {z:Vl} (e:oI g s h x y=some z):∃i j w,x=.x (.int i)/\y=.x (.int j)/\g i j=some w/\z=.v w:=by
 unfold oI at e
 split at e
 .rename_i i j
  cases q:g i j with
  |none=>rw[q]at e;cases e
  |some w=>rw[q]at e;cases e;exact⟨i,j,w,rfl,rfl,q,rfl⟩
 .cases e
def Dx {gv:Int->Int->V} {g:Int->Int->Option V3} (hg:∀i j z,g i j=some z->∀β O H,Rep κ β O H z (gv i j)):OpSim κ (yQ gv) (oI g):=fun F σ H x y z v w Q rel rx ry e k=>by
 obtain⟨i,j,u,rfl,rfl,q,rfl⟩:=HY e;cases (show Rep κ F.β F.O H (.int i) v from rx)
 cases (show Rep κ F.β F.O H (.int j) w from ry)
 exact⟨i,j,rfl,rfl,k _ H Ext.refl ⟨rel,hg i j u q _ _ _⟩⟩
def Ej {C:Int->Int->Prop} {gv:Int->Int->V} {g:Int->Int->Option V3} (hg:∀i j z,g i j=some z->C i j/\∀β O H,Rep κ β O H z (gv i j)):OpSim κ (rI C gv) (oI g):=fun F σ H x y z v w Q rel rx ry e k=>by
 obtain⟨i,j,u,rfl,rfl,q,rfl⟩:=HY e;cases (show Rep κ F.β F.O H (.int i) v from rx)
 cases (show Rep κ F.β F.O H (.int j) w from ry)
 exact⟨i,j,rfl,rfl,(hg i j u q).1,k _ H Ext.refl ⟨rel,(hg i j u q).2 _ _ _⟩⟩
instance {i j:Int}:Decidable (CMul i j):=inferInstanceAs (Decidable (_\/_))
instance {i j:Int}:Decidable (CDiv i j):=inferInstanceAs (Decidable (_/\_))
instance {i j:Int}:Decidable (CPow i j):=inferInstanceAs (Decidable (_/\_))
def Dy:F2:=oI fun i j=>some (.int (i+j))
def oSub:F2:=oI fun i j=>some (.int (i-j))
def EW:F2:=oI fun i j=>if CMul i j then some (.int (i*j)) else none
def zE:F2:=oI fun i j=>if CDiv i j then some (.int (i / j)) else none
def zA:F2:=oI fun i j=>if 0<j then some (.int (i%j)) else none
def oPow:F2:=oI fun i j=>if CPow i j then some (.int (i ^ j.toNat)) else none
def oShr:F2:=oI fun i j=>if 0<=j then some (.int (i / 2 ^ j.toNat)) else none
def Ms:F2:=oI fun i j=>some (.int (Builtin.bitAnd i j))
def oLt:F2:=oI fun i j=>some (.bl (decide (i<j)))
def oLe:F2:=oI fun i j=>some (.bl (decide (i<=j)))
def oGt:F2:=oI fun i j=>some (.bl (decide (j<i)))
def oGe:F2:=oI fun i j=>some (.bl (decide (j<=i)))
def sim_addI:OpSim κ (yQ fun i j=>.int (i+j)) Dy:=Dx fun i j z e=>by cases e;exact fun _ _ _=>.int _
def HZ:OpSim κ (yQ fun i j=>.int (i-j)) oSub:=Dx fun i j z e=>by cases e;exact fun _ _ _=>.int _
def Ia:OpSim κ (yQ fun i j=>.bl (decide (i<j))) oLt:=Dx fun i j z e=>by cases e;exact fun _ _ _=>.bl _
def Ek:OpSim κ (yQ fun i j=>.bl (decide (i<=j))) oLe:=Dx fun i j z e=>by cases e;exact fun _ _ _=>.bl _
def EX:OpSim κ (yQ fun i j=>.bl (decide (j<i))) oGt:=Dx fun i j z e=>by cases e;exact fun _ _ _=>.bl _
def yV {c:Prop} [Decidable c] {α:Type} {x z:α} (e:(if c then some x else none)=some z):c/\x=z:=by
 by_cases h:c
 .rw[Aa h]at e;exact⟨h,Option.some.inj e⟩
 .rw[Ab h]at e;cases e
def sim_mulI:OpSim κ (rI CMul fun i j=>.int (i*j)) EW:=Ej fun i j z e=>by obtain⟨h,rfl⟩:=yV e;exact⟨h,fun _ _ _=>.int _⟩
def yN:OpSim κ (rI CDiv fun i j=>.int (i / j)) zE:=Ej fun i j z e=>by obtain⟨h,rfl⟩:=yV e;exact⟨h,fun _ _ _=>.int _⟩
def yx:OpSim κ (rI (fun _ j=>0<j) fun i j=>.int (i%j)) zA:=Ej fun i j z e=>by obtain⟨h,rfl⟩:=yV e;exact⟨h,fun _ _ _=>.int _⟩
def El:OpSim κ (rI CPow fun i j=>.int (i ^ j.toNat)) oPow:=Ej fun i j z e=>by obtain⟨h,rfl⟩:=yV e;exact⟨h,fun _ _ _=>.int _⟩
def yW (f g:F2):F2:=fun s h x y=>match f s h x y with
 |some z=>some z
 |none=>g s h x y
def OpSim.or {r r':R2} {f g:F2} (hf:OpSim κ r f) (hg:OpSim κ r' g):OpSim κ (fun x y H Q=>r x y H Q\/r' x y H Q) (yW f g):=fun F σ H x y z v w Q rel rx ry e k=>by
 unfold yW at e;cases q:f F.s F.h x y with
 |some u=>rw[q]at e;cases e;exact .inl (hf F σ H x y _ v w Q rel rx ry q k)
 |none=>rw[q]at e;exact .inr (hg F σ H x y z v w Q rel rx ry e k)
def Dz:F2:=fun _ _ x y=>match x,y with
 |.x (.str i),.x (.str j)=>if i.length+j.length<=sizeLine then some (.v (.str (i++j))) else none
 |_,_=>none
def sim_addS:OpSim κ (fun x y H Q=> ∃i j,x=.str i/\y=.str j/\i.length+j.length<=sizeLine/\Q (.str (i++j)) H) Dz:=fun F σ H x y z v w Q rel rx ry e k=>by
 unfold Dz at e
 split at e
 .rename_i i j
  obtain⟨h,rfl⟩:=yV e;cases (show Rep κ F.β F.O H (.str i) v from rx)
  cases (show Rep κ F.β F.O H (.str j) w from ry)
  exact⟨i,j,rfl,rfl,h,k _ H Ext.refl ⟨rel,.str _⟩⟩
 .cases e
def rdm (s:S3) (h:H3):Rf->Option (List V3)
 |.x (.scr _)=>none
 |f=>rdl s h f
def BU {f:Rf} {v:V} {xs:List V3} (rel:Rel κ F σ H) (r:RfR κ F H f v) (e:rdm F.s F.h f=some xs):∃a ys,v=.ref a/\H a=some (.lst ys)/\Reps κ F.β F.O H xs ys:=by
 cases f with
 |s i=>
  have e:rdl F.s F.h (.s i)=some xs:=e;obtain⟨a,c,h1,h2,h3,h4⟩:=r;simp only[rdl,h3]at e;cases c<;>simp at e
  subst e;obtain⟨ys,h5,h6⟩:=h4;exact⟨a,ys,h2,h5,h6⟩
 |x y=>
  cases y<;>simp[rdm,rdl]at e
  case lst zs=>
   subst e;cases r with
   |lst h1 h2 h3 h4=>exact⟨_,_,rfl,h1,h4⟩
  case loc n=>
   cases r with
   |loc h1 h2=>
    cases q:F.h[n]? with
    |none=>rw[q]at e;cases e
    |some c=>
     rw[q]at e;cases c<;>simp at e
     subst e
     rcases rel.heap.cell n _ q with z|⟨a,ha,ys,h5,h6⟩
     .cases z
     .exact⟨a,ys,h2 a ha,h5,h6⟩
def oCat:F2:=fun s h x y=>match rdm s h x,rdm s h y with
 |some xs,some ys=>if xs.length+ys.length<=sizeLine then some (.m (.lst (xs++ys))) else none
 |_,_=>none
def Mt:OpSim κ rCat oCat:=fun F σ H x y z v w Q rel rx ry e k=>by
 unfold oCat at e;cases q1:rdm F.s F.h x with
 |none=>rw[q1]at e;cases e
 |some xs=>
  cases q2:rdm F.s F.h y with
  |none=>rw[q1,q2]at e;cases e
  |some ys=>
   rw[q1,q2]at e;obtain⟨h,rfl⟩:=yV e;obtain⟨a,us,rfl,ha,ra⟩:=BU rel rx q1;obtain⟨b,ws,rfl,hb,rb⟩:=BU rel ry q2;exact⟨a,b,us,ws,rfl,rfl,ha,hb,by rw[<-ra.length,<-rb.length];exact h,fun p hp=>k _ _ (yz hp) (Post.lst rel hp (ra.append rb))⟩
def zm:F2:=yW Dy (yW Dz oCat)
def yy:OpR X (binaryOp .Add) (fun x y H Q=>(yQ fun i j=>.int (i+j)) x y H Q\/((fun x y H Q=> ∃i j,x=.str i/\y=.str j/\i.length+j.length<=sizeLine/\Q (.str (i++j)) H) x y H Q\/rCat x y H Q)):=op_add.or (op_add_str.or Ly)
def yt:OpSim κ (fun x y H Q=>(yQ fun i j=>.int (i+j)) x y H Q\/((fun x y H Q=> ∃i j,x=.str i/\y=.str j/\i.length+j.length<=sizeLine/\Q (.str (i++j)) H) x y H Q\/rCat x y H Q)) zm:=sim_addI.or (sim_addS.or Mt)
def oRep:F2:=fun s h x y=>match rdm s h x,y with
 |some xs,.x (.int k)=>if -(2 ^ 63)<=k/\k<2 ^ 63/\xs.length*k.toNat<=sizeLine then some (.m (.lst (List.replicate k.toNat xs).flatten)) else none
 |_,_=>none
def Mu:OpSim κ rRep oRep:=fun F σ H x y z v w Q rel rx ry e k=>by
 unfold oRep at e
 split at e
 .rename_i xs n q
  obtain⟨⟨h1,h2,h3⟩,rfl⟩:=yV e;obtain⟨a,us,rfl,ha,ra⟩:=BU rel rx q;cases (show Rep κ F.β F.O H (.int n) w from ry)
  exact⟨a,n,us,rfl,rfl,ha,h1,h2,by rw[<-ra.length];exact h3,fun p hp=>k _ _ (yz hp) (Post.lst rel hp (ra.rep _))⟩
 .cases e
def zZ:F2:=yW EW oRep
def AQ:OpR X (binaryOp .Mult) (fun x y H Q=>(rI CMul fun i j=>.int (i*j)) x y H Q\/rRep x y H Q):=op_mul.or L0
def AR:OpSim κ (fun x y H Q=>(rI CMul fun i j=>.int (i*j)) x y H Q\/rRep x y H Q) zZ:=sim_mulI.or Mu
theorem Reps.atI {xs:List V3} {ys:List V} {i:Int} {x:V3} (r:Reps κ F.β F.O H xs ys) (e:atI xs i=some x):∃y,L2.atI ys i=some y/\Rep κ F.β F.O H x y:=by
 unfold L2.atI at e ⊢;rw[<-r.length];cases q:ixN xs.length i with
 |none=>rw[q]at e;cases e
 |some j=>
  rw[q]at e;exact r.get e
def oIxL:F2:=fun s h x y=>match y with
 |.x (.int i)=>match rdl s h x with
  |some xs=>(atI xs i).map .v
  |none=>none
 |_=>none
def oIxT:F2:=fun _ _ x y=>match x,y with
 |.x (.tup xs),.x (.int i)=>(atI xs i).map .v
 |_,_=>none
def oIxS:F2:=fun _ _ x y=>match x,y with
 |.x (.str z),.x (.int i)=>if z.length<=sizeLine then (atI z.cps.toList i).map fun c=>.v (.str ⟨#[c]⟩) else none
 |_,_=>none
def sim_ixL:OpSim κ (rIxL κ.K) oIxL:=fun F σ H x y z v w Q rel rx ry e k=>by
 unfold oIxL at e
 split at e
 .rename_i i
  cases (show Rep κ F.β F.O H (.int i) w from ry)
  cases q:rdl F.s F.h x with
  |none=>rw[q]at e;cases e
  |some xs=>
   rw[q]at e;cases q2:atI xs i with
   |none=>simp only[q2]at e;cases e
   |some u=>
    simp only[q2]at e;cases e;obtain⟨a,us,rfl,sq,ra⟩:=BE rel rx q;obtain⟨y,hy,ry'⟩:=Reps.atI ra q2;exact⟨a,us,i,y,rfl,rfl,sq,hy,k _ H Ext.refl ⟨rel,ry'⟩⟩
 .cases e
def sim_ixT:OpSim κ (rIxT κ.K) oIxT:=fun F σ H x y z v w Q rel rx ry e k=>by
 unfold oIxT at e
 split at e
 .rename_i xs i
  cases (show Rep κ F.β F.O H (.int i) w from ry)
  cases q2:atI xs i with
  |none=>rw[q2]at e;cases e
  |some u=>
   rw[q2]at e;cases e;cases (show Rep κ F.β F.O H (.tup xs) v from rx) with
   |tup h1 h2 h3 h4=>
    obtain⟨y,hy,ry'⟩:=Reps.atI h4 q2;exact⟨_,_,i,y,rfl,rfl,.of h1,hy,k _ H Ext.refl ⟨rel,ry'⟩⟩
 .cases e
def Mv:OpSim κ rIxS oIxS:=fun F σ H x y z v w Q rel rx ry e k=>by
 unfold oIxS at e
 split at e
 .rename_i zz i
  cases (show Rep κ F.β F.O H (.int i) w from ry)
  cases (show Rep κ F.β F.O H (.str zz) v from rx)
  obtain⟨h,e⟩:zz.length<=sizeLine/\((atI zz.cps.toList i).map fun c=>Vl.v (.str ⟨#[c]⟩))=some z:=by
   by_cases h:zz.length<=sizeLine
   .rw[Aa h]at e;exact⟨h,e⟩
   .rw[Ab h]at e;cases e
  cases q2:atI zz.cps.toList i with
  |none=>rw[q2]at e;cases e
  |some c=>
   rw[q2]at e;cases e;exact⟨zz,i,c,rfl,rfl,h,q2,k _ H Ext.refl ⟨rel,.str _⟩⟩
 .cases e
def yk:F2:=yW oIxT (yW oIxL oIxS)
def Ib (hK:X.K=κ.K):IxR X (fun x y H Q=>rIxT κ.K x y H Q\/(fun x y H Q=>rIxL κ.K x y H Q\/rIxS x y H Q) x y H Q):=by
 rw[<-hK];exact ix_tup.or (ix_list.or Lq)
def Ic:OpSim κ (fun x y H Q=>rIxT κ.K x y H Q\/(fun x y H Q=>rIxL κ.K x y H Q\/rIxS x y H Q) x y H Q) yk:=sim_ixT.or (sim_ixL.or Mv)
def oIsN (neg:Bool):F2:=fun _ _ x y=>match x,y with
 |.x .non,.x .non=>some (.v (.bl (!neg)))
 |.x (.loc _),_=>none
 |.x _,.x .non=>some (.v (.bl neg))
 |.s _,.x .non=>some (.v (.bl neg))
 |_,_=>none
end
inductive K3 where
 |f (a:V)|l (xs:List V3)|t (xs:List V3)|o
def yK (h:H3):V3->K3
 |.non=>.f .non
 |.bl b=>.f (.bl b)
 |.int i=>.f (.int i)
 |.str x=>.f (.str x)
 |.lst xs=>.l xs
 |.tup xs=>.t xs
 |.loc n=>match h[n]? with
  |some (.lst xs)=>.l xs
  |_=>.o
 |_=>.o
def yI (f:V3->V3->Option Bool):List V3->List V3->Option Bool
 |x::xs,y::ys=>match f x y,yI f xs ys with
  |some a,some b=>some (a && b)
  |_,_=>none
 |_,_=>some true
def zX (h:H3):Nat->V3->V3->Option Bool
 |0,x,y=>match yK h x,yK h y with
  |.f a,.f b=>some (eqV a b)
  |_,_=>none
 |n+1,x,y=>match yK h x,yK h y with
  |.f a,.f b=>some (eqV a b)
  |.l xs,.l ys=>if xs.length=ys.length then yI (zX h n) xs ys else some false
  |.t xs,.t ys=>(yI (zX h n) xs ys).map (· && xs.length==ys.length)
  |.o,_=>none
  |_,.o=>none
  |_,_=>some false
section
variable {X:Cx} {κ:Kx} {E:XK} {F:Fr} {σ:L2.St} {H H':Hp} {Q:VK} {p:Addr} {pos:Pos} {i:Nat}
theorem CO {f:V3->V3->Option Bool}:∀{xs ys:List V3} {b:Bool},yI f xs ys=some b->(∀(j:Nat) (x y:V3),xs[j]? =some x->ys[j]? =some y->∃c,f x y=some c)/\b=(List.range (min xs.length ys.length)).all fun j=>((xs[j]?).bind fun x=>(ys[j]?).bind fun y=>f x y).getD false
 | [],ys,b,e=>by
  unfold yI at e;cases e;exact⟨fun j x y h=>by simp at h,by simp⟩
 |x::xs,[],b,e=>by
  unfold yI at e;cases e;exact⟨fun j x y _ h=>by simp at h,by simp⟩
 |x::xs,y::ys,b,e=>by
  unfold yI at e;cases q1:f x y with
  |none=>simp only[q1]at e;cases e
  |some a=>
   cases q2:yI f xs ys with
   |none=>simp only[q1,q2]at e;cases e
   |some c=>
    simp only[q1,q2]at e;cases e;obtain⟨h1,h2⟩:=CO q2
    refine⟨fun j x' y' hx hy=>?_,?_⟩
    .cases j with
     |zero=>simp at hx hy;subst hx;subst hy;exact⟨a,q1⟩
     |succ j=>exact h1 j x' y' (by simpa using hx) (by simpa using hy)
    .rw[A4,A4,Nat.add_min_add_right,List.range_succ_eq_map,List.all_cons,List.all_map]
     simp only[Cu,Cv,q1,Option.getD_some,h2,Function.comp_def,Cw]
def BH {x:V3} {v:V} (rel:RelH κ F.O F.β F.h H) (r:Rep κ F.β F.O H x v):match yK F.h x with
  |.f a=>v=a/\BQ a=true
  |.l xs=> ∃a ys,v=.ref a/\H a=some (.lst ys)/\Reps κ F.β F.O H xs ys
  |.t xs=> ∃a ys,v=.ref a/\H a=some (.tup ys)/\Reps κ F.β F.O H xs ys
  |.o=>True:=by
 cases r with
 |lst h1 h2 h3 h4=>exact⟨_,_,rfl,h1,h4⟩
 |tup h1 h2 h3 h4=>exact⟨_,_,rfl,h1,h4⟩
 | @loc n v h1 h2=>
  simp only[yK];cases q:F.h[n]? with
  |none=>trivial
  |some c=>
   cases c with
   |lst xs=>
    rcases rel.cell n _ q with z|⟨a,ha,ys,h5,h6⟩
    .cases z
    .exact⟨a,ys,h2 a ha,h5,h6⟩
   |_=>trivial
 |_=>first|exact⟨rfl,rfl⟩|trivial
def Vals.at {ys:List V} {us:List Value} {j:Nat} {y:V} (r:Vals ys us) (h:j<us.toArray.size) (e:ys[j]? =some y):RelV y us.toArray[j]:=by
 obtain⟨u,h1,h2⟩:=r.get e;have:=(Av.mp h1).2;have e1:us.toArray[j]=u:=by simpa using this
 rw[e1];exact h2
def Ie {n:Nat} (ih:∀{x y:V3} {v:V} {b:Bool},Rep κ F.β F.O H x v->Rep κ F.β F.O H y v->zX F.h n x y=some b->b=true):∀{xs ys:List V3} {vs:List V} {b:Bool},Reps κ F.β F.O H xs vs->Reps κ F.β F.O H ys vs->yI (zX F.h n) xs ys=some b->b=true:=by
 intro xs
 induction xs with
 |nil=>intro ys vs b _ _ e;unfold yI at e;cases e;rfl
 |cons x xs ihx=>
  intro ys vs b r1 r2 e;cases r1 with
  |cons a1 t1=>
   cases r2 with
   | @cons y _ ys _ a2 t2=>
    unfold yI at e;cases q1:zX F.h n x y with
    |none=>simp only[q1]at e;cases e
    |some a=>
     cases q2:yI (zX F.h n) xs ys with
     |none=>simp only[q1,q2]at e;cases e
     |some c=>
      simp only[q1,q2]at e;cases e;rw[ih a1 a2 q1,ihx t1 t2 q2];rfl
def Ig {a:V} (h:BQ a=true):eqV a a=true:=by cases a<;>simp[BQ]at h<;>simp[eqV]
theorem EY (rel:RelH κ F.O F.β F.h H):∀(n:Nat) {x y:V3} {v:V} {b:Bool},Rep κ F.β F.O H x v->Rep κ F.β F.O H y v->zX F.h n x y=some b->b=true
 |0,x,y,v,b,rx,ry,e=>by
  have kx:=BH rel rx;have ky:=BH rel ry;unfold zX at e;cases h1:yK F.h x<;>cases h2:yK F.h y<;>simp only[h1,h2]at e kx ky<;>try cases e
  obtain⟨e1,e2⟩:=kx;obtain⟨e3,_⟩:=ky;rw[<-e1,<-e3];rw[<-e1]at e2;exact Ig e2
 |n+1,x,y,v,b,rx,ry,e=>by
  have kx:=BH rel rx;have ky:=BH rel ry;unfold zX at e;cases h1:yK F.h x<;>cases h2:yK F.h y<;>simp only[h1,h2]at e kx ky<;>try cases e
  case f.f=>
   obtain⟨e1,e2⟩:=kx;obtain⟨e3,_⟩:=ky;rw[<-e1,<-e3];rw[<-e1]at e2;exact Ig e2
  case f.l=>obtain⟨e1,e2⟩:=kx;obtain⟨a,ys,e3,_⟩:=ky;rw[<-e1,e3]at e2;cases e2
  case f.t=>obtain⟨e1,e2⟩:=kx;obtain⟨a,ys,e3,_⟩:=ky;rw[<-e1,e3]at e2;cases e2
  case l.f=>obtain⟨e1,e2⟩:=ky;obtain⟨a,ys,e3,_⟩:=kx;rw[<-e1,e3]at e2;cases e2
  case t.f=>obtain⟨e1,e2⟩:=ky;obtain⟨a,ys,e3,_⟩:=kx;rw[<-e1,e3]at e2;cases e2
  case l.t=>obtain⟨a,ys,e3,h5,_⟩:=kx;obtain⟨a',ys',e4,h6,_⟩:=ky;rw[e3]at e4;cases e4;rw[h5]at h6;cases h6
  case t.l=>obtain⟨a,ys,e3,h5,_⟩:=kx;obtain⟨a',ys',e4,h6,_⟩:=ky;rw[e3]at e4;cases e4;rw[h5]at h6;cases h6
  case l.l xs ys=>
   obtain⟨a,us,e3,h5,r5⟩:=kx;obtain⟨a',us',e4,h6,r6⟩:=ky;rw[e3]at e4;cases e4;rw[h5]at h6;cases h6;rw[Aa (by rw[r5.length,r6.length])]at e
   exact Ie (fun a b c=>EY rel n a b c) r5 r6 e
  case t.t xs ys=>
   obtain⟨a,us,e3,h5,r5⟩:=kx;obtain⟨a',us',e4,h6,r6⟩:=ky;rw[e3]at e4;cases e4;rw[h5]at h6;cases h6;cases q:yI (zX F.h n) xs ys with
   |none=>rw[q]at e;cases e
   |some c=>
    rw[q]at e;cases e;rw[Ie (fun a b c=>EY rel n a b c) r5 r6 q,r5.length,r6.length]
    simp
def Ih {s:Shared} {a c:V} {v u:Value} {A:Around} (r1:RelV a v) (r2:RelV c u) (f1:BQ a=true) (f2:BQ c=true):SeqAt.RcAt A s v u (eqV a c)/\SeqAt.RcNeAt A s v u (!eqV a c):=by
 cases a with
 |non=>
  cases r1;cases c with
  |non=>cases r2;exact⟨.none_none,.none_none⟩
  |bl c=>cases r2;exact⟨.none_bool _,.none_bool _⟩
  |int c=>obtain⟨tr2,rfl⟩:=r2;exact⟨.none_int _ _,.none_int _ _⟩
  |str c=>obtain⟨tr2,rfl⟩:=r2;exact⟨.none_str _ _,.none_str _ _⟩
  |_=>exact absurd (show false=true from f2) An
 |bl a=>
  cases r1;cases c with
  |non=>cases r2;exact⟨.bool_none _,.bool_none _⟩
  |bl c=>cases r2;exact⟨.bool_bool _ _,.bool_bool _ _⟩
  |int c=>obtain⟨tr2,rfl⟩:=r2;exact⟨.bool_int _ _ _,.bool_int _ _ _⟩
  |str c=>obtain⟨tr2,rfl⟩:=r2;exact⟨.bool_str _ _ _,.bool_str _ _ _⟩
  |_=>exact absurd (show false=true from f2) An
 |int a=>
  obtain⟨tr1,rfl⟩:=r1;cases c with
  |non=>cases r2;exact⟨.int_none _ _,.int_none _ _⟩
  |bl c=>cases r2;exact⟨.int_bool _ _ _,.int_bool _ _ _⟩
  |int c=>obtain⟨tr2,rfl⟩:=r2;exact⟨.int_int _ _ _ _,.int_int _ _ _ _⟩
  |str c=>obtain⟨tr2,rfl⟩:=r2;exact⟨.int_str _ _ _ _,.int_str _ _ _ _⟩
  |_=>exact absurd (show false=true from f2) An
 |str a=>
  obtain⟨tr1,rfl⟩:=r1;cases c with
  |non=>cases r2;exact⟨.str_none _ _,.str_none _ _⟩
  |bl c=>cases r2;exact⟨.str_bool _ _ _,.str_bool _ _ _⟩
  |int c=>obtain⟨tr2,rfl⟩:=r2;exact⟨.str_int _ _ _ _,.str_int _ _ _ _⟩
  |str c=>obtain⟨tr2,rfl⟩:=r2;exact⟨.str_str _ _ _ _,.str_str _ _ _ _⟩
  |_=>exact absurd (show false=true from f2) An
 |_=>exact absurd (show false=true from f1) An
def ans (h:H3) (n:Nat) (xs ys:List V3) (j:Nat):Bool:=((xs[j]?).bind fun x=>(ys[j]?).bind fun y=>zX h n x y).getD false
def Ii (rel:RelH κ F.O F.β F.h H):∀(n:Nat) {pins:AL} {s:Shared} {x y:V3} {v' u':V} {v u:Value} {b:Bool} {A:Around},Inv X pins σ H s->Rep κ F.β F.O H x v'->Rep κ F.β F.O H y u'->RelV v' v->RelV u' u->zX F.h n x y=some b->A.units+n<cLine->
  (SeqAt.RcAt A s v u b/\SeqAt.RcNeAt A s v u (!b))/\SeqAt.EqAt A s v u b:=by
 intro n
 induction n with
 |zero=>
  intro pins s x y v' u' v u b A I rx ry rv ru e hu;have kx:=BH rel rx;have ky:=BH rel ry;unfold zX at e;cases h1:yK F.h x<;>cases h2:yK F.h y<;>simp only[h1,h2]at e kx ky<;>try cases e
  obtain⟨e1,e2⟩:=kx;obtain⟨e3,e4⟩:=ky;subst e1;subst e3;exact⟨Ih rv ru e2 e4,Hu rv ru e2 e4⟩
 |succ n ih=>
  intro pins s x y v' u' v u b A I rx ry rv ru e hu;have kx:=BH rel rx;have ky:=BH rel ry;have e0:=e;unfold zX at e;have items:∀{xs ys:List V3} {us ws:List V} {vs zs:List Value} {c:Bool},Reps κ F.β F.O H xs us->Reps κ F.β F.O H ys ws->Vals us vs->Vals ws zs->yI (zX F.h n) xs ys=some c->∀j (h1:j<vs.toArray.size) (h2:j<zs.toArray.size),SeqAt.EqAt A.in1 s vs.toArray[j] zs.toArray[j] (ans F.h n xs ys j):=by
   intro xs ys us ws vs zs c r1 r2 v1 v2 q j h1 h2;have l1:=r1.length;have l2:=r2.length;have l3:=v1.length;have l4:=v2.length;have h1':j<xs.length:=by rw[l1,l3];simpa using h1
   have h2':j<ys.length:=by rw[l2,l4];simpa using h2
   obtain⟨y1,hy1,ry1⟩:=r1.get (z8 h1');obtain⟨y2,hy2,ry2⟩:=r2.get (z8 h2');obtain⟨d,hd⟩:=(CO q).1 j _ _ (z8 h1') (z8 h2');have ea:ans F.h n xs ys j=d:=by unfold ans;rw[z8 h1',z8 h2'];simp[hd]
   rw[ea];exact (ih I ry1 ry2 (Vals.at v1 h1 hy1) (Vals.at v2 h2 hy2) hd (by show A.units+1+n<cLine;lia)).2
  have wrap:∀{a a':Addr},v'=.ref a->u'=.ref a'->(SeqAt.RcAt A s v u b/\SeqAt.RcNeAt A s v u (!b))->(SeqAt.RcAt A s v u b/\SeqAt.RcNeAt A s v u (!b))/\SeqAt.EqAt A s v u b:=by
   intro a a' ea ea' h
   refine⟨h,?_⟩
   subst ea;subst ea';cases rv;cases ru
   by_cases z:a=a'
   .subst z
    rw[EY rel (n+1) rx ry e0];exact SeqAt.EqAt.same _
   .exact SeqAt.EqAt.of_refs z h.1
  cases h1:yK F.h x<;>cases h2:yK F.h y<;>simp only[h1,h2]at e kx ky<;>try cases e
  case succ.f.f.refl=>
   obtain⟨e1,e2⟩:=kx;obtain⟨e3,e4⟩:=ky;subst e1;subst e3;exact⟨Ih rv ru e2 e4,Hu rv ru e2 e4⟩
  case succ.l.l xs ys=>
   obtain⟨a,us,rfl,h5,r5⟩:=kx;obtain⟨a',us',rfl,h6,r6⟩:=ky
   refine wrap rfl rfl ?_
   cases rv;cases ru;obtain⟨vs,rv,pl,_⟩:=I.list (SqL.of (K:=X.K) h5);obtain⟨zs,rz,pz,_⟩:=I.list (SqL.of (K:=X.K) h6);have l1:=r5.length;have l2:=r6.length;have l3:=rv.length;have l4:=rz.length
   by_cases hl:xs.length=ys.length
   .rw[Aa hl]at e
    have hsz:vs.toArray.size=zs.toArray.size:=by rw[Af,Af];lia
    have eb:b=(List.range vs.toArray.size).all (ans F.h n xs ys):=by
     rw[(CO e).2,<-hl,Nat.min_self,Af,<-l3,<-l1];rfl
    rw[eb];exact⟨.lists pl.isList pz.isList hsz (by lia) (items r5 r6 rv rz e),.lists pl.isList pz.isList hsz (by lia) (items r5 r6 rv rz e)⟩
   .rw[Ab hl]at e;cases e
    have hsz:(vs.toArray.size !=zs.toArray.size)=true:=by rw[Af,Af];simp;lia
    exact⟨.lists_lengths pl.isList pz.isList hsz (by lia),.lists_lengths pl.isList pz.isList hsz (by lia)⟩
  case succ.t.t xs ys=>
   obtain⟨a,us,rfl,h5,r5⟩:=kx;obtain⟨a',us',rfl,h6,r6⟩:=ky
   refine wrap rfl rfl ?_
   cases rv;cases ru;obtain⟨vs,rv,pl,_⟩:=I.tuple (SqT.of (K:=X.K) h5);obtain⟨zs,rz,pz,_⟩:=I.tuple (SqT.of (K:=X.K) h6);have l1:=r5.length;have l2:=r6.length;have l3:=rv.length;have l4:=rz.length;cases q:yI (zX F.h n) xs ys with
   |none=>rw[q]at e;cases e
   |some c=>
    rw[q]at e;have eb:b=((List.range (min vs.toArray.size zs.toArray.size)).all (ans F.h n xs ys) && vs.toArray.size==zs.toArray.size):=by
     cases e;rw[(CO q).2,Af,Af,<-l3,<-l4,<-l1,<-l2];rfl
    rw[eb];exact⟨.tuples (show s.heap.IsTuple a vs.toArray from pl) (show s.heap.IsTuple a' zs.toArray from pz) (by lia) (items r5 r6 rv rz q),.tuples (show s.heap.IsTuple a vs.toArray from pl) (show s.heap.IsTuple a' zs.toArray from pz) (by lia) (items r5 r6 rv rz q)⟩
  case succ.l.t.refl xs ys=>
   obtain⟨a,us,rfl,h5,r5⟩:=kx;obtain⟨a',us',rfl,h6,r6⟩:=ky
   refine wrap rfl rfl ?_
   cases rv;cases ru;obtain⟨vs,rv,pl,_⟩:=I.list (SqL.of (K:=X.K) h5);obtain⟨zs,rz,pz,_⟩:=I.tuple (SqT.of (K:=X.K) h6);exact⟨.list_tuple pl.isList (show s.heap.IsTuple a' zs.toArray from pz) (by lia),.list_tuple pl.isList (show s.heap.IsTuple a' zs.toArray from pz) (by lia)⟩
  case succ.t.l.refl xs ys=>
   obtain⟨a,us,rfl,h5,r5⟩:=kx;obtain⟨a',us',rfl,h6,r6⟩:=ky
   refine wrap rfl rfl ?_
   cases rv;cases ru;obtain⟨vs,rv,pl,_⟩:=I.tuple (SqT.of (K:=X.K) h5);obtain⟨zs,rz,pz,_⟩:=I.list (SqL.of (K:=X.K) h6);exact⟨.tuple_list (show s.heap.IsTuple a vs.toArray from pl) pz.isList (by lia),.tuple_list (show s.heap.IsTuple a vs.toArray from pl) pz.isList (by lia)⟩
  case succ.l.f.refl xs a0=>
   obtain⟨a,us,rfl,h5,r5⟩:=kx;obtain⟨e3,e4⟩:=ky;subst e3;cases rv;obtain⟨vs,rv,pl,_⟩:=I.list (SqL.of (K:=X.K) h5);have hu':A.units<cLine:=by lia
   cases u' with
   |non=>cases ru;exact⟨⟨.list_none pl.isList hu',.list_none pl.isList hu'⟩,.list_none pl.isList hu'⟩
   |bl b=>cases ru;exact⟨⟨.list_bool b pl.isList hu',.list_bool b pl.isList hu'⟩,.list_bool b pl.isList hu'⟩
   |int b=>obtain⟨t,rfl⟩:=ru;exact⟨⟨.list_int b t pl.isList hu',.list_int b t pl.isList hu'⟩,.list_int b t pl.isList hu'⟩
   |str b=>obtain⟨t,rfl⟩:=ru;exact⟨⟨.list_str b t pl.isList hu',.list_str b t pl.isList hu'⟩,.list_str b t pl.isList hu'⟩
   |_=>exact absurd (show false=true from e4) An
  case succ.t.f.refl xs a0=>
   obtain⟨a,us,rfl,h5,r5⟩:=kx;obtain⟨e3,e4⟩:=ky;subst e3;cases rv;obtain⟨vs,rv,pl,_⟩:=I.tuple (SqT.of (K:=X.K) h5);have pl:s.heap.IsTuple a vs.toArray:=pl;have hu':A.units<cLine:=by lia
   cases u' with
   |non=>cases ru;exact⟨⟨.tuple_none pl hu',.tuple_none pl hu'⟩,.tuple_none pl hu'⟩
   |bl b=>cases ru;exact⟨⟨.tuple_bool b pl hu',.tuple_bool b pl hu'⟩,.tuple_bool b pl hu'⟩
   |int b=>obtain⟨t,rfl⟩:=ru;exact⟨⟨.tuple_int b t pl hu',.tuple_int b t pl hu'⟩,.tuple_int b t pl hu'⟩
   |str b=>obtain⟨t,rfl⟩:=ru;exact⟨⟨.tuple_str b t pl hu',.tuple_str b t pl hu'⟩,.tuple_str b t pl hu'⟩
   |_=>exact absurd (show false=true from e4) An
  case succ.f.l.refl a0 xs=>
   obtain⟨a,us,rfl,h5,r5⟩:=ky;obtain⟨e3,e4⟩:=kx;subst e3;cases ru;obtain⟨vs,ru,pl,_⟩:=I.list (SqL.of (K:=X.K) h5);have hu':A.units<cLine:=by lia
   cases v' with
   |non=>cases rv;exact⟨⟨.none_list pl.isList hu',.none_list pl.isList hu'⟩,.none_list pl.isList hu'⟩
   |bl b=>cases rv;exact⟨⟨.bool_list b pl.isList hu',.bool_list b pl.isList hu'⟩,.bool_list b pl.isList hu'⟩
   |int b=>obtain⟨t,rfl⟩:=rv;exact⟨⟨.int_list b t pl.isList hu',.int_list b t pl.isList hu'⟩,.int_list b t pl.isList hu'⟩
   |str b=>obtain⟨t,rfl⟩:=rv;exact⟨⟨.str_list b t pl.isList hu',.str_list b t pl.isList hu'⟩,.str_list b t pl.isList hu'⟩
   |_=>exact absurd (show false=true from e4) An
  case succ.f.t.refl a0 xs=>
   obtain⟨a,us,rfl,h5,r5⟩:=ky;obtain⟨e3,e4⟩:=kx;subst e3;cases ru;obtain⟨vs,ru,pl,_⟩:=I.tuple (SqT.of (K:=X.K) h5);have pl:s.heap.IsTuple a vs.toArray:=pl;have hu':A.units<cLine:=by lia
   cases v' with
   |non=>cases rv;exact⟨⟨.none_tuple pl hu',.none_tuple pl hu'⟩,.none_tuple pl hu'⟩
   |bl b=>cases rv;exact⟨⟨.bool_tuple b pl hu',.bool_tuple b pl hu'⟩,.bool_tuple b pl hu'⟩
   |int b=>obtain⟨t,rfl⟩:=rv;exact⟨⟨.int_tuple b t pl hu',.int_tuple b t pl hu'⟩,.int_tuple b t pl hu'⟩
   |str b=>obtain⟨t,rfl⟩:=rv;exact⟨⟨.str_tuple b t pl hu',.str_tuple b t pl hu'⟩,.str_tuple b t pl hu'⟩
   |_=>exact absurd (show false=true from e4) An
def yJ (s:S3) (h:H3) (x y:Rf):Option Bool:=match rdm s h x,rdm s h y with
 |some xs,some ys=>if xs.length=ys.length then yI (zX h 8) xs ys else some false
 |_,_=>match x,y with
  |.x a,.x b=>zX h 9 a b
  |_,_=>none
def yd:F2:=fun s h x y=>(yJ s h x y).map fun b=>.v (.bl b)
def yf:F2:=fun s h x y=>(yJ s h x y).map fun b=>.v (.bl !b)
def rEqT (κ:Kx) (neg:Bool):R2:=fun v w H Q=> ∃F σ x y b,Rel κ F σ H/\RfR κ F H x v/\RfR κ F H y w/\yJ F.s F.h x y=some b/\Q (.bl (if neg then !b else b)) H
def Ij {pins:AL} {s:Shared} {σ':L2.St} {x y:Rf} {v' u':V} {v u:Value} {b:Bool} {A:Around} (I:Inv X pins σ' H s) (rel:Rel κ F σ H) (rx:RfR κ F H x v') (ry:RfR κ F H y u') (rv:RelV v' v) (ru:RelV u' u) (e:yJ F.s F.h x y=some b) (hu:A.units+9<cLine):
  SeqAt.RcAt A s v u b/\SeqAt.RcNeAt A s v u (!b):=by
 unfold yJ at e
 split at e
 .rename_i xs ys q1 q2
  obtain⟨a,us,rfl,h5,r5⟩:=BU rel rx q1;obtain⟨a',us',rfl,h6,r6⟩:=BU rel ry q2;cases rv;cases ru;obtain⟨vs,rv,pl,_⟩:=I.list (SqL.of (K:=X.K) h5);obtain⟨zs,rz,pz,_⟩:=I.list (SqL.of (K:=X.K) h6);have l1:=r5.length;have l2:=r6.length;have l3:=rv.length;have l4:=rz.length
  by_cases hl:xs.length=ys.length
  .rw[Aa hl]at e
   have hsz:vs.toArray.size=zs.toArray.size:=by rw[Af,Af];lia
   have eb:b=(List.range vs.toArray.size).all (ans F.h 8 xs ys):=by
    rw[(CO e).2,<-hl,Nat.min_self,Af,<-l3,<-l1];rfl
   have items:∀j (h1:j<vs.toArray.size) (h2:j<zs.toArray.size),SeqAt.EqAt A.in1 s vs.toArray[j] zs.toArray[j] (ans F.h 8 xs ys j):=by
    intro j h1 h2;have h1':j<xs.length:=by rw[l1,l3];simpa using h1
    have h2':j<ys.length:=by rw[l2,l4];simpa using h2
    obtain⟨y1,hy1,ry1⟩:=r5.get (z8 h1');obtain⟨y2,hy2,ry2⟩:=r6.get (z8 h2');obtain⟨d,hd⟩:=(CO e).1 j _ _ (z8 h1') (z8 h2');have ea:ans F.h 8 xs ys j=d:=by unfold ans;rw[z8 h1',z8 h2'];simp[hd]
    rw[ea];exact (Ii rel.heap 8 I ry1 ry2 (Vals.at rv h1 hy1) (Vals.at rz h2 hy2) hd (by show A.units+1+8<cLine;lia)).2
   rw[eb];exact⟨.lists pl.isList pz.isList hsz (by lia) items,.lists pl.isList pz.isList hsz (by lia) items⟩
  .rw[Ab hl]at e;cases e
   have hsz:(vs.toArray.size !=zs.toArray.size)=true:=by rw[Af,Af];simp;lia
   exact⟨.lists_lengths pl.isList pz.isList hsz (by lia),.lists_lengths pl.isList pz.isList hsz (by lia)⟩
 .split at e
  .exact (Ii rel.heap 9 I (show Rep κ F.β F.O H _ v' from rx) (show Rep κ F.β F.O H _ u' from ry) rv ru e hu).1
  .cases e
def qi (hu:X.A.units+9<cLine):OpR X (compareOp .Eq) (rEqT κ false):=by
 intro pins s σ H x y v u Q I rx ry h;obtain⟨F,σ',x3,y3,b,rel,r1,r2,e,q⟩:=h;exact (Ij I rel r1 r2 rx ry e hu).1 X.prog X.w X.xe _ ⟨.bl b,H,I,rfl,q⟩
def AA (hu:X.A.units+9<cLine):OpR X (compareOp .NotEq) (rEqT κ true):=by
 intro pins s σ H x y v u Q I rx ry h;obtain⟨F,σ',x3,y3,b,rel,r1,r2,e,q⟩:=h;exact (Ij I rel r1 r2 rx ry e hu).2 X.prog X.w X.xe _ ⟨.bl !b,H,I,rfl,q⟩
def qj:OpSim κ (rEqT κ false) yd:=fun F σ H x y z v w Q rel rx ry e k=>by
 unfold yd at e;cases q:yJ F.s F.h x y with
 |none=>rw[q]at e;cases e
 |some b=>rw[q]at e;cases e;exact⟨F,σ,x,y,b,rel,rx,ry,q,k _ H Ext.refl ⟨rel,.bl _⟩⟩
def AB:OpSim κ (rEqT κ true) yf:=fun F σ H x y z v w Q rel rx ry e k=>by
 unfold yf at e;cases q:yJ F.s F.h x y with
 |none=>rw[q]at e;cases e
 |some b=>rw[q]at e;cases e;exact⟨F,σ,x,y,b,rel,rx,ry,q,k _ H Ext.refl ⟨rel,.bl _⟩⟩
end
section
variable {X:Cx} {κ:Kx} {E:XK} {F:Fr} {σ:L2.St} {H H':Hp} {Q:VK} {p:Addr} {pos np:Pos} {i:Nat} {x:Str} {e:Expr} {es:List Expr} {t:A3}
def r_b {id:String} {r:List V->Hp->VK->Prop} {f:FB} (hs:qa κ r f) (hc:ym X (.builtin id) r) (hg:Gl X x) (hm:X.mg x=none) (hv:bootBuiltins x=some (.builtin id)) (ha:PA X (e::es) (zK κ E t)) (hn:x≠"__name__" :=by decide) (hdb:(x==("__debug__" :Str))=false:=by decide)
 (he:SE X e es:=by rfl) (hpl:BA X pos es:=by rfl):PE X (.Call (.Name x np) (e::es) [] pos) (zg κ E (eB f t)):=yh (La hc hg hm hv ha hn hdb he hpl) fun _ _ _ h=>te_b hs h
def r_ty {T:String} {r:List V->Hp->VK->Prop} {f:FB} (hs:qa κ r f) (hc:ym X (.type T) r) (hg:Gl X x) (hm:X.mg x=none) (hv:bootBuiltins x=some (.type T)) (ha:PA X (e::es) (zK κ E t)) (hn:x≠"__name__" :=by decide) (hdb:(x==("__debug__" :Str))=false:=by decide)
 (he:SE X e es:=by rfl) (hpl:BA X pos es:=by rfl):PE X (.Call (.Name x np) (e::es) [] pos) (zg κ E (eB f t)):=yh (Lb hc hg hm hv ha hn hdb he hpl) fun _ _ _ h=>te_b hs h
def p1 {f:Rf} {vs:List V} (r:Paired (RfR κ F H) [f] vs):∃v,vs=[v]/\RfR κ F H f v:=by
 cases r with|cons a t=>cases t;exact⟨_,rfl,a⟩
def p2 {f g:Rf} {vs:List V} (r:Paired (RfR κ F H) [f,g] vs):∃v w,vs=[v,w]/\RfR κ F H f v/\RfR κ F H g w:=by
 cases r with|cons a t=>cases t with|cons b t=>cases t;exact⟨_,_,rfl,a,b⟩
def bLen:FB:=fun s h fs=>match fs with
 | [.x (.str y)]=>if y.length<=sizeLine then some (.v (.int y.length)) else none
 | [.x (.tup xs)]=>some (.v (.int xs.length))
 | [f]=>(rdl s h f).map fun xs=>.v (.int xs.length)
 |_=>none
def AC:qa κ (fun xs H Q=> ∃x n,xs=[x]/\LenV κ.K x H n/\Q (.int n) H) bLen:=fun F σ H fs z vs Q rel r e k=>by
 unfold bLen at e
 split at e
 .rename_i y
  obtain⟨v,rfl,rv⟩:=p1 r;cases (show Rep κ F.β F.O H (.str y) v from rv)
  obtain⟨h,rfl⟩:=yV e;exact⟨_,_,rfl,⟨h,rfl⟩,k _ H Ext.refl ⟨rel,.int _⟩⟩
 .rename_i xs
  obtain⟨v,rfl,rv⟩:=p1 r;cases e;cases (show Rep κ F.β F.O H (.tup xs) v from rv) with
  |tup h1 h2 h3 h4=>exact⟨_,_,rfl,.inr ⟨_,.of h1,rfl⟩,k _ H Ext.refl ⟨rel,by rw[h4.length];exact .int _⟩⟩
 .rename_i f _ _
  obtain⟨v,rfl,rv⟩:=p1 r;cases q:rdl F.s F.h f with
  |none=>rw[q]at e;cases e
  |some xs=>
   rw[q]at e;cases e;obtain⟨a,ys,rfl,sq,rs⟩:=BE rel rv q;exact⟨_,_,rfl,.inl ⟨_,sq,rfl⟩,k _ H Ext.refl ⟨rel,by rw[rs.length];exact .int _⟩⟩
 .cases e
def AD (hK:X.K=κ.K):ym X (.builtin "len") (fun xs H Q=> ∃x n,xs=[x]/\LenV κ.K x H n/\Q (.int n) H):=by rw[<-hK];exact KJ
def bMax:FB:=fun _ _ fs=>match fs with
 | [.x (.int i),.x (.int j)]=>some (.v (.int (max i j)))
 |_=>none
def bMin:FB:=fun _ _ fs=>match fs with
 | [.x (.int i),.x (.int j)]=>some (.v (.int (min i j)))
 |_=>none
def bMin3:FB:=fun _ _ fs=>match fs with
 | [.x (.int i),.x (.int j),.x (.int k)]=>some (.v (.int (min i (min j k))))
 |_=>none
def Mw:qa κ (fun xs H Q=> ∃i j,xs=[.int i,.int j]/\Q (.int (if j > i then j else i)) H) bMax:=fun F σ H fs z vs Q rel r e k=>by
 unfold bMax at e
 split at e
 .rename_i i j
  cases e;obtain⟨v,w,rfl,rv,rw'⟩:=p2 r;cases (show Rep κ F.β F.O H (.int i) v from rv)
  cases (show Rep κ F.β F.O H (.int j) w from rw')
  refine⟨i,j,rfl,k _ H Ext.refl ⟨rel,?_⟩⟩
  have:(if j > i then j else i)=max i j:=by split<;>lia
  rw[this];exact .int _
 .cases e
def Mx:qa κ (fun xs H Q=> ∃i j,xs=[.int i,.int j]/\Q (.int (if j<i then j else i)) H) bMin:=fun F σ H fs z vs Q rel r e k=>by
 unfold bMin at e
 split at e
 .rename_i i j
  cases e;obtain⟨v,w,rfl,rv,rw'⟩:=p2 r;cases (show Rep κ F.β F.O H (.int i) v from rv)
  cases (show Rep κ F.β F.O H (.int j) w from rw')
  refine⟨i,j,rfl,k _ H Ext.refl ⟨rel,?_⟩⟩
  have:(if j<i then j else i)=min i j:=by split<;>lia
  rw[this];exact .int _
 .cases e
def bInt:FB:=fun _ _ fs=>match fs with
 | [.x (.int i)]=>some (.v (.int i))
 | [.x (.bl b)]=>some (.v (.int (if b then 1 else 0)))
 |_=>none
def Mz:qa κ (fun xs H Q=>(∃i,xs=[.int i]/\Q (.int i) H)\/∃k,xs=[.bl k]/\Q (.int (if k then 1 else 0)) H) bInt:=fun F σ H fs z vs Q rel r e k=>by
 unfold bInt at e
 split at e
 .rename_i i
  cases e;obtain⟨v,rfl,rv⟩:=p1 r;cases (show Rep κ F.β F.O H (.int i) v from rv)
  exact .inl ⟨i,rfl,k _ H Ext.refl ⟨rel,.int _⟩⟩
 .rename_i b
  cases e;obtain⟨v,rfl,rv⟩:=p1 r;cases (show Rep κ F.β F.O H (.bl b) v from rv)
  exact .inr ⟨b,rfl,k _ H Ext.refl ⟨rel,.int _⟩⟩
 .cases e
def bList:FB:=fun s h fs=>match fs with
 | [.x (.tup xs)]=>some (.m (.lst xs))
 | [f]=>(rdl s h f).map fun xs=>.m (.lst xs)
 |_=>none
def EZ:qa κ (fun xs H Q=> ∃p ys,xs=[.ref p]/\(SqL κ.K H p ys\/SqT κ.K H p ys)/\∀l,H l=none->Q (.ref l) (zl H l (.lst ys))) bList:=fun F σ H fs z vs Q rel r e k=>by
 unfold bList at e
 split at e
 .rename_i xs
  cases e;obtain⟨v,rfl,rv⟩:=p1 r;cases (show Rep κ F.β F.O H (.tup xs) v from rv) with
  |tup h1 h2 h3 h4=>exact⟨_,_,rfl,.inr (.of h1),fun l hl=>k _ _ (yz hl) (Post.lst rel hl h4)⟩
 .rename_i f _
  obtain⟨v,rfl,rv⟩:=p1 r;cases q:rdl F.s F.h f with
  |none=>rw[q]at e;cases e
  |some xs=>
   rw[q]at e;cases e;obtain⟨a,ys,rfl,sq,rs⟩:=BE rel rv q;exact⟨_,_,rfl,.inl sq,fun l hl=>k _ _ (yz hl) (Post.lst rel hl rs)⟩
 .cases e
def zP {α β:Type} (f:α->Option β):List α->Option (List β)
 | []=>some []
 |x::r=>match f x,zP f r with
  |some y,some l=>some (y::l)
  |_,_=>none
theorem Fb {α β γ:Type} {f:α->Option β} {g:γ->α} {k:γ->β} (h:∀c,f (g c)=some (k c)):∀l:List γ,zP f (l.map g)=some (l.map k)
 | []=>rfl
 |x::r=>by simp only[Ao,zP,h x,Fb h r]
def Ik {α β:Type} {f:α->Option β} {x:α} {r:List α} {l:List β} (e:zP f (x::r)=some l):∃y l',f x=some y/\zP f r=some l'/\l=y::l':=by
 unfold zP at e;cases q1:f x with
 |none=>simp only[q1]at e;cases e
 |some y=>
  cases q2:zP f r with
  |none=>simp only[q1,q2]at e;cases e
  |some l'=>simp only[q1,q2]at e;cases e;exact⟨y,l',rfl,rfl,rfl⟩
def bl3:V3->Option Bool
 |.bl b=>some b
 |_=>none
theorem Il:∀{xs:List V3} {ys:List V} {bs:List Bool},Reps κ F.β F.O H xs ys->zP bl3 xs=some bs->ys=bs.map V.bl
 |_,_,_,.nil,e=>by cases e;rfl
 |x::xs,y::ys,bs,.cons a r,e=>by
  obtain⟨b,l,h1,h2,rfl⟩:=Ik e;cases x<;>simp[bl3]at h1
  subst h1;cases a;rw[Ao,Il r h2]
def bAll (q:List Bool->Bool):FB:=fun s h fs=>match fs with
 | [f]=>match rdl s h f with
  |some xs=>(zP bl3 xs).map fun bs=>.v (.bl (q bs))
  |none=>none
 |_=>none
def Fc {q:List Bool->Bool}:qa κ (fun xs H Q=> ∃(p:Addr) (bs:List Bool),xs=[.ref p]/\SqL κ.K H p (bs.map V.bl)/\Q (.bl (q bs)) H) (bAll q):=fun F σ H fs z vs Q rel r e k=>by
 unfold bAll at e
 split at e
 .rename_i f
  obtain⟨v,rfl,rv⟩:=p1 r;cases q1:rdl F.s F.h f with
  |none=>rw[q1]at e;cases e
  |some xs=>
   rw[q1]at e;cases q2:zP bl3 xs with
   |none=>simp only[q2]at e;cases e
   |some bs=>
    simp only[q2]at e;cases e;obtain⟨a,ys,rfl,sq,rs⟩:=BE rel rv q1;exact⟨a,bs,rfl,by rw[<-Il rs q2];exact sq,k _ H Ext.refl ⟨rel,.bl _⟩⟩
 .cases e
def Im (hK:X.K=κ.K) (hc:X.calm=true):ym X (.builtin "all") (fun xs H Q=> ∃(p:Addr) (bs:List Bool),xs=[.ref p]/\SqL κ.K H p (bs.map V.bl)/\Q (.bl (bs.all id)) H):=by rw[<-hK];exact LS hc
def M0 (hK:X.K=κ.K) (hc:X.calm=true):ym X (.builtin "any") (fun xs H Q=> ∃(p:Addr) (bs:List Bool),xs=[.ref p]/\SqL κ.K H p (bs.map V.bl)/\Q (.bl (bs.any id)) H):=by rw[<-hK];exact LU hc
def Fd (hK:X.K=κ.K):ym X (.type "list") (fun xs H Q=> ∃p ys,xs=[.ref p]/\(SqL κ.K H p ys\/SqT κ.K H p ys)/\∀l,H l=none->Q (.ref l) (zl H l (.lst ys))):=by rw[<-hK];exact Lu
instance {x:Int}:Decidable (InLong x):=inferInstanceAs (Decidable (_/\_))
def ty3 (s:S3) (h:H3):Rf->Option String
 |.x .non=>some "NoneType"
 |.x (.bl _)=>some "bool"
 |.x (.int _)=>some "int"
 |.x (.str _)=>some "str"
 |.x (.tup _)=>some "tuple"
 |.x (.scr _)=>none
 |f=>(rdl s h f).map fun _=>"list"
def isa (t T:String):Option Bool:=
 if T="int" then some (t=="int" || t=="bool") else if T="bool" \/T="str" \/T="list" \/T="tuple" then some (t==T) else none
def bIsT:FB:=fun s h fs=>match fs with
 | [f,.x (.ty T)]=>match ty3 s h f with
  |some t=>(isa t T).map fun b=>.v (.bl b)
  |none=>none
 |_=>none
def M1 {K:FG} {t T:String} {b:Bool} (ht:t∈["NoneType","bool","int","str","tuple","list"]) (e:isa t T=some b):PySem.W.kitOne K (.type t) (.type T)=some b:=by
 unfold isa at e;have hT:T∈["int","bool","str","list","tuple"]:=by
  by_cases h:T="int"
  .simp[h]
  .rw[Ab h]at e
   by_cases h2:T="bool" \/T="str" \/T="list" \/T="tuple"
   .simp only[Ai,B2,Bk];exact .inr h2
   .rw[Ab h2]at e;cases e
 simp only[Ai,B2,Bk]at ht hT
 rcases ht with rfl|rfl|rfl|rfl|rfl|rfl<;>rcases hT with rfl|rfl|rfl|rfl|rfl<;>(simp at e;subst e;rfl)
def M3 {f:Rf} {v:V} {t:String} (rel:Rel κ F σ H) (r:RfR κ F H f v) (e:ty3 F.s F.h f=some t):t∈["NoneType","bool","int","str","tuple","list"]/\TyOf κ.K H v (.type t):=by
 have lists:∀{f:Rf} {v:V} {t:String},RfR κ F H f v->(∀ns,f≠ .x (.scr ns))->((rdl F.s F.h f).map fun _=>"list")=some t->t∈["NoneType","bool","int","str","tuple","list"]/\TyOf κ.K H v (.type t):=by
  intro f v t r hf e;cases q:rdl F.s F.h f with
  |none=>rw[q]at e;cases e
  |some xs=>
   rw[q]at e;cases e;have q2:rdm F.s F.h f=some xs:=by
    unfold rdm
    split
    .rename_i ns;exact absurd rfl (hf ns)
    .exact q
   obtain⟨a,ys,rfl,ha,_⟩:=BU rel r q2;exact⟨by simp,.lst ha⟩
 cases f with
 |s i=>exact lists r (fun _ z=>nomatch z) e
 |x y=>
  cases y with
  |non=>cases e;cases (show Rep κ F.β F.O H .non v from r);exact⟨by simp,.non⟩
  |bl b=>cases e;cases (show Rep κ F.β F.O H (.bl b) v from r);exact⟨by simp,.bl b⟩
  |int b=>cases e;cases (show Rep κ F.β F.O H (.int b) v from r);exact⟨by simp,.int b⟩
  |str b=>cases e;cases (show Rep κ F.β F.O H (.str b) v from r);exact⟨by simp,.str b⟩
  |tup xs=>cases e;cases (show Rep κ F.β F.O H (.tup xs) v from r) with|tup h1 _ _ _=>exact⟨by simp,.tup h1⟩
  |scr ns=>cases e
  |lst xs=>exact lists r (fun _ z=>nomatch z) e
  |loc n=>exact lists r (fun _ z=>nomatch z) e
  |_=>cases e
def CP:qa κ (fun xs H Q=> ∃x T t b,xs=[x,.ty T]/\TyOf κ.K H x t/\PySem.W.kitOne κ.K t (.type T)=some b/\Q (.bl b) H) bIsT:=fun F σ H fs z vs Q rel r e k=>by
 unfold bIsT at e
 split at e
 .rename_i f T
  obtain⟨v,w,rfl,rv,rw'⟩:=p2 r;cases (show Rep κ F.β F.O H (.ty T) w from rw')
  cases q1:ty3 F.s F.h f with
  |none=>rw[q1]at e;cases e
  |some t=>
   rw[q1]at e;cases q2:isa t T with
   |none=>simp only[q2]at e;cases e
   |some b=>
    simp only[q2]at e;cases e;obtain⟨h1,h2⟩:=M3 rel rv q1;exact⟨v,T,_,b,rfl,h2,M1 h1 q2,k _ H Ext.refl ⟨rel,.bl _⟩⟩
 .cases e
def CQ (hK:X.K=κ.K):ym X (.builtin "isinstance") (fun xs H Q=> ∃x T t b,xs=[x,.ty T]/\TyOf κ.K H x t/\PySem.W.kitOne κ.K t (.type T)=some b/\Q (.bl b) H):=by rw[<-hK];exact LR
def tru3 (s:S3) (h:H3):Rf->Option Bool
 |.x .non=>some false
 |.x (.bl b)=>some b
 |.x (.int i)=>some (i !=0)
 |.x (.str y)=>if y.length<=sizeLine then some ((y.length:Int) !=0) else none
 |.x (.tup xs)=>some (!xs.isEmpty)
 |f=>(rdl s h f).map fun xs=> !xs.isEmpty
def tP (p:P3):T3:=fun s h=>(p s h).bind fun f h1=>match tru3 s h1 f with
 |some b=>.ok b h1
 |none=>.no
def Io {xs:List V3} {ys:List V} (r:Reps κ F.β F.O H xs ys):xs.isEmpty=ys.isEmpty:=by cases r<;>rfl
def M4 {f:Rf} {v:V} {b:Bool} (rel:Rel κ F σ H) (r:RfR κ F H f v) (e:tru3 F.s F.h f=some b):TruV κ.K v H b:=by
 have lists:∀{f:Rf} {v:V} {b:Bool},RfR κ F H f v->((rdl F.s F.h f).map fun xs=> !xs.isEmpty)=some b->TruV κ.K v H b:=by
  intro f v b r e;cases q:rdl F.s F.h f with
  |none=>rw[q]at e;cases e
  |some xs=>
   rw[q]at e;cases e;obtain⟨a,ys,rfl,sq,rs⟩:=BE rel r q;exact .inl ⟨ys,sq,by show (!xs.isEmpty)=_;rw[Io rs]⟩
 cases f with
 |s i=>exact lists r e
 |x y=>
  cases y with
  |non=>cases e;cases (show Rep κ F.β F.O H .non v from r);rfl
  |bl b=>cases e;cases (show Rep κ F.β F.O H (.bl b) v from r);rfl
  |int b=>cases e;cases (show Rep κ F.β F.O H (.int b) v from r);rfl
  |str b=>cases (show Rep κ F.β F.O H (.str b) v from r);obtain⟨h,rfl⟩:=yV e;exact⟨h,rfl⟩
  |tup xs=>cases e;cases (show Rep κ F.β F.O H (.tup xs) v from r) with|tup h1 _ _ h4=>exact .inr (.inl ⟨_,.of h1,by rw[Io h4]⟩)
  |scr ns=>exact lists r e
  |lst xs=>exact lists r e
  |loc n=>exact lists r e
  |_=>cases e
def Ip {a:Expr} {d:P3} (hK:X.K=κ.K) (ha:PE X a (zh κ E d)) (he:∀whole,isTrue a X.env whole=(do let v <-whole;standAt a.pos;holding [v] (truthy v)):=by intro _;rfl):PT X a (zD κ E (tP d)):=PTw (KD ha he) fun σ H Q ⟨F,rel,o⟩=>
 (zG (K:=kP κ) km_T rel o).mono fun v H1 ⟨β1,h1,f,e1,⟨r1,rf⟩,o1⟩=>by
  cases q:tru3 F.s h1 f with
  |none=>simp only[q]at o1;exact o1.elim
  |some b=>
   simp only[q]at o1;exact⟨b,by rw[hK];exact M4 (F:=F.to β1 h1) r1 rf q,o1 β1 b H1 Ext.refl ⟨rfl,r1⟩⟩
end
section
variable {X:Cx} {κ:Kx} {E:XK} {F F1 F2 F':Fr} {σ σ':L2.St} {H H1 H2 H':Hp} {Q:VK} {p:Addr} {e a b o:Expr} {pos apos np:Pos} {i:Nat} {D:Ends}
def iR1 (a:A3):I3:=fun s h=>(a s h).bind fun fs h1=>match fs with
 | [.x (.int j)]=>if -(2 ^ 62)<=j/\j<2 ^ 62 then .ok ⟨[],(List.range j.toNat).map fun k=>.int (0+(k:Nat)),fun _=>True⟩ h1 else .no
 |_=>.no
def iR2 (a:A3):I3:=fun s h=>(a s h).bind fun fs h1=>match fs with
 | [.x (.int i),.x (.int j)]=>if -(2 ^ 62)<=i/\i<2 ^ 62/\ -(2 ^ 62)<=j/\j<2 ^ 62 then .ok ⟨[],(List.range (j-i).toNat).map fun k=>.int (i+(k:Nat)),fun _=>True⟩ h1 else .no
 |_=>.no
def Iq {lo:Int} {n:Nat}:IR κ ⟨[],(List.range n).map fun k=>.int (lo+(k:Nat)),fun _=>True⟩ [] (Itr lo n):=fun F σ H rel _ _ i=>by
 have el:((List.range n).map fun k=>V3.int (lo+(k:Nat))).length=n:=by simp
 refine⟨fun hi=>⟨show i<n by rw[el]at hi;exact hi,fun x H' ⟨e1,e2⟩=>?_⟩,fun hi=>show n<=i by rw[el]at hi;exact hi⟩
 subst e1;subst e2;have hi:i<n:=by simpa using hi
 exact⟨.int (lo+i),by simp[hi],Ext.refl,rel,.int _⟩
def Ir {tg:Expr} {t:A3} (hg:Gl X "range") (hm:X.mg "range" =none) (ha:PA X [a] (zK κ E t)) (hs:starEach [a] X.env=[(false,eval a X.env)]:=by rfl):PI X tg (.Call (.Name "range" np) [a] [] pos) (ya κ E (iR1 t)):=PIw (Kz hg hm ha hs) fun σ H R ⟨F,rel,o⟩=>
 (zG (K:=kA κ) km_I rel o).mono fun vs H1 ⟨β1,h1,fs,e1,⟨r1,rf⟩,o1⟩=>by
  match fs,rf,o1 with
  | [.x (.int j)],rf,o1=>
   obtain⟨v,rfl,rv⟩:=p1 rf;cases (show Rep κ β1 F.O H1 (.int j) v from rv)
   by_cases hj: -(2 ^ 62)<=j/\j<2 ^ 62
   .simp only[Aa hj]at o1
    exact⟨j,rfl,hj.1,hj.2,o1 β1 _ H1 Ext.refl ⟨r1,[],.nil,Iq⟩⟩
   .simp only[Ab hj]at o1;exact o1.elim
def M5 {tg:Expr} {t:A3} (hg:Gl X "range") (hm:X.mg "range" =none) (ha:PA X [a,b] (zK κ E t)) (hs:starEach [a,b] X.env=[(false,eval a X.env),(false,eval b X.env)]:=by rfl) (hs2:starEach [b] X.env=[(false,eval b X.env)]:=by rfl):PI X tg (.Call (.Name "range" np) [a,b] [] pos) (ya κ E (iR2 t)):=PIw (K0 hg hm ha hs hs2) fun σ H R ⟨F,rel,o⟩=>
 (zG (K:=kA κ) km_I rel o).mono fun vs H1 ⟨β1,h1,fs,e1,⟨r1,rf⟩,o1⟩=>by
  match fs,rf,o1 with
  | [.x (.int i),.x (.int j)],rf,o1=>
   obtain⟨v,w,rfl,rv,rw'⟩:=p2 rf;cases (show Rep κ β1 F.O H1 (.int i) v from rv)
   cases (show Rep κ β1 F.O H1 (.int j) w from rw')
   by_cases hj: -(2 ^ 62)<=i/\i<2 ^ 62/\ -(2 ^ 62)<=j/\j<2 ^ 62
   .simp only[Aa hj]at o1
    exact⟨i,j,rfl,hj,o1 β1 _ H1 Ext.refl ⟨r1,[],.nil,Iq⟩⟩
   .simp only[Ab hj]at o1;exact o1.elim
def z7 (n:Nat) (fr:List Nat) (s:S3):S3:=List.replicate n none++fr.map fun j=>match s[j]? with
 |some (some (.v x))=>some (.v x)
 |_=>none
open Classical in
def yB (ok:H3->Prop) (g:G3) (c:T3) (e:E3):List V3->List V3->S3->H3->Res (List V3)
 | [],acc,_,h=>if ok h then .ok acc h else .no
 |x::r,acc,s,h=>if ok h then match g x s with
  |none=>.no
  |some s1=>match c s1 h with
   |.ok true h1=>match e s1 h1 with
    |.ok v h2=>match v.fz with
     |some y=>if acc.length<sizeLine then yB ok g c e r (acc++[y]) s1 h2 else .no
     |none=>.no
    |_=>.no
   |.ok false h1=>yB ok g c e r acc s1 h1
   |_=>.no
  else .no
def ye (n:Nat) (fr:List Nat) (it:I3) (g:G3) (c:T3) (e:E3):E3:=fun s h=>(it s h).bind fun I h1=>(yB I.ok g c e I.xs [] (z7 n fr s) h1).bind fun vs h2=>.ok (.m (.lst vs)) h2
def tTru:T3:=fun _ h=>.ok true h
def qb:PTs X [] (zD κ E tTru):=fun pins s σ H Q I ⟨F,rel,o⟩=>LO pins s σ H Q I (o F.β true H Ext.refl ⟨rfl,rel⟩)
def M6 {c:Expr} {t:T3} (h:PT X c (zD κ E t)):PTs X [c] (zD κ E t):=LP h
def CS {β:AO} {d:Addr} {o:HO} (ho:∃u,H d=some u):Ext (fun a=>a=d) β H β (zl H d o):=
 ⟨fun a u ha hn m=>⟨by rw[zW m];exact ha,hn⟩,Ac _,fun _ _ _ h=>h,fun a u ha=>by
  by_cases z:a=d
  .subst z;exact⟨o,yL⟩
  .exact⟨u,by rw[zW z];exact ha⟩,nwb0⟩
def RelH.wrO {O:Addr->Prop} {β:AO} {h:H3} {d:Addr} {u:HO} (r:RelH κ O β h H) (hd:O d) (hu:∀ys,u≠HO.tup ys:=by intro _ z;cases z):RelH κ O β h (zl H d u):=by
 have ex:=CS (β:=β) (o:=u) (r.trk' d hd);have th:∀a w,H a=some w->(∀ys,w≠HO.tup ys)->∃w,zl H d u a=some w/\∀ys,w≠HO.tup ys:=fun a w q n=>by
  by_cases z:a=d
  .subst z;exact⟨u,yL,hu⟩
  .exact⟨w,by rw[zW z];exact q,n⟩
 refine⟨r.len,r.inj,r.off,fun a ha=>let ⟨w,q,n⟩:=r.trk a ha;th a w q n,fun i a q=>let ⟨w,z,n⟩:=r.btr i a q;th a w z n,fun i c hc=>(r.cell i c hc).imp id fun ⟨a,ha,q⟩=>⟨a,ha,q.ext ex (fun b hb=>by rw[hb];exact hd) (fun _ _ _ n=>n) fun w hw=>?_⟩⟩
 rw[zW (fun z=>by subst z;exact r.off a hd (Aj ha))];exact hw
def Rel.wrOi {d:Addr} {u:HO} (r:Rel κ F σ H) (hd:F.Oi d) (hu:∀ys,u≠HO.tup ys:=by intro _ z;cases z):Rel κ F σ (zl H d u) where
 heap:=r.heap.wrO (.inr (.inr hd)) hu
 slen:=r.slen
 llen:=r.llen
 linj:=r.linj
 lt:=r.lt
 lo:=r.lo
 to:=r.to
 tn:=r.tn
 slot:=fun i x q=>by
  have hO:F.O d:= .inr (.inr hd);have ex:=CS (β:=F.β) (o:=u) (r.heap.trk' d hO);obtain⟨v,h1,h2⟩:=r.slot i x q
  refine⟨v,h1,?_⟩
  cases x with
  |v x=>exact Rep.ext ex (fun b hb=>by rw[hb];exact hO) (fun _ _ _ n=>n) h2
  |m c=>
   obtain⟨a,a1,a2,a3⟩:=h2
   refine⟨a,a1,a2,a3.ext ex (fun b hb=>by rw[hb];exact hO) (fun _ _ _ n=>n) fun w hw=>?_⟩
   rw[zW (fun z=>by subst z;exact r.lo a (Aj a1) hd)];exact hw
def M7 {n:Nat} {fr:List Nat} {s:S3} {i:Nat} {x:Vl} (h:(z7 n fr s)[i]? =some (some x)):∃j y,fr[i-n]? =some j/\n<=i/\s[j]? =some (some (.v y))/\x=.v y:=by
 unfold z7 at h
 by_cases hi:i<n
 .rw[Az (by simpa using hi),C6]at h
  split at h<;>cases h
 .rw[Bg (by simpa using hi),Bw,A8]at h
  cases q:fr[i-n]? with
  |none=>rw[q]at h;cases h
  |some j=>
   rw[q]at h;simp only[A0,Cd]at h
   split at h
   .rename_i y hy;cases h;exact⟨j,y,rfl,by lia,hy,rfl⟩
   .cases h
def Fe {n:Nat} {fr:List Nat} {it:I3} {g:G3} {c:T3} {d:E3} (h:zg κ E (ye n fr it g c d) σ H Q):Ee (ya κ E it) n fr (zV κ g) (zD κ E0 c) (zg κ E0 d) σ H Q:=by
 obtain⟨F,rel,o⟩:=h
 refine (zG (K:=kI κ) zu rel o).mono fun J H1 ⟨β1,h1,I,e1,⟨r1,vs,rv,ir⟩,o1⟩=>fun D hD=>?_
 have hDH:H D=none:=e1.nw D hD
 let Oi:Addr->Prop:=fun a=>a=D\/F.O a
 have rn:=(r1.new (o:= .lst []) hD);have rh1:RelH κ Oi β1 h1 (zl H1 D (.lst [])):=rn.1.heap.sub fun a ha=>ha.elim (fun z=>.inl (by rw[z];exact Ak)) fun z=>Fr.O_with z
 have hO1:∀a u,H1 a=some u->¬F.O a->¬Oi a:=fun a u ha n z=>z.elim (fun w=>by subst w;rw[hD]at ha;cases ha) n
 let F0:Fr:=⟨Oi,[],β1,List.replicate (z7 n fr F.s).length none,z7 n fr F.s,h1⟩
 have sub0:∀(F':Fr),F'.T=[]->(∀a,some a∉F'.l)->F'.Oi=Oi->∀a,F'.O a->Oi a:=fun F' t l oi a ha=>by
  rcases ha with z|z|z
  .rw[t]at z;cases z
  .exact absurd z (l a)
  .rw[oi]at z;exact z
 have hlen:(z7 n fr F.s).length=(cst n fr σ).length:=by unfold z7 cst;simp
 have rel0:Rel κ F0 (cst n fr σ) (zl H1 D (.lst [])):=by
  refine⟨rh1.sub (sub0 F0 rfl (fun a=>qr) rfl),hlen,?_,fun i j a h=>absurd (Aj h) qr,fun a ha=>absurd ha qr,fun a ha=>absurd ha qr,fun a ha=>(by cases ha),List.nodup_nil,fun i x hx=>?_⟩
  .show (List.replicate (z7 n fr F.s).length (none:Option Addr)).length=(z7 n fr F.s).length
   simp
  .obtain⟨j,y,hj,hi,hy,rfl⟩:=M7 hx
   obtain⟨v,hv,rv⟩:=r1.slot j _ hy
   refine⟨v,?_,Rep.sub (sub0 F0 rfl (fun a=>qr) rfl) (Rep.ext (yz hD) (fun _ z=>z.elim) hO1 (show Rep κ β1 F.O H1 y v from rv))⟩
   unfold cst;rw[Bg (by simpa using hi),Bw,A8,hj]
   simp[hv]
 have rv0:Reps κ β1 Oi (zl H1 D (.lst [])) I.its vs:=rv.ext (yz hD) (fun _ z=>z.elim) hO1
 refine⟨fun i m acc σ' H'=>m=I.xs.length-i/\i<=I.xs.length/\H' D=some (.lst acc)/\∃(F':Fr) (acc3:List V3),Rel κ F' σ' H'/\F'.T=[]/\(∀a,some a∉F'.l)/\F'.Oi=Oi/\Reps κ F'.β Oi H' I.its vs/\Reps κ F'.β Oi H' acc3 acc/\Ext No β1 H1 F'.β H'/\
   Out κ E (kE κ) (F.to β1 h1) σ H1 Q ((yB I.ok g c d (I.xs.drop i) acc3 F'.s F'.h).bind fun vs h2=>.ok (.m (.lst vs)) h2),
  ⟨_,rfl,By _,yL,F0,[],rel0,rfl,fun a=>qr,rfl,rv0,.nil,yz hD,o1⟩,?_⟩
 rintro i m acc σ' H' ⟨rfl,hi,hacc,F',acc3,rel',ht,hl,hoi,rits,racc,ex,out⟩
 refine⟨hacc,?_⟩
 have hO:∀a,F'.O a↔Oi a:=fun a=>⟨sub0 F' ht hl hoi a,fun z=>.inr (.inr (by rw[hoi];exact z))⟩
 have eO:F'.O=Oi:=funext fun a=>propext (hO a)
 by_cases hok:I.ok F'.h
 case neg=>
  exfalso
  cases q:I.xs.drop i with
  |nil=>rw[q]at out;unfold yB at out;rw[Ab hok]at out;exact out
  |cons x r=>rw[q]at out;unfold yB at out;rw[Ab hok]at out;exact out
 obtain⟨i1,i2⟩:=ir F' σ' H' rel' (by rw[eO];exact rits) hok i
 by_cases hlt:i<I.xs.length
 .obtain⟨go,yl⟩:=i1 hlt
  refine .inr ⟨go,fun acc' σ3 H5=>H5 D=some (.lst acc')/\∃(F':Fr) (acc3:List V3),Rel κ F' σ3 H5/\F'.T=[]/\(∀a,some a∉F'.l)/\F'.Oi=Oi/\Reps κ F'.β Oi H5 I.its vs/\Reps κ F'.β Oi H5 acc3 acc'/\Ext No β1 H1 F'.β H5/\
   Out κ E (kE κ) (F.to β1 h1) σ H1 Q ((yB I.ok g c d (I.xs.drop (i+1)) acc3 F'.s F'.h).bind fun vs h2=>.ok (.m (.lst vs)) h2),fun acc' σ3 H5 n5=>⟨_,by lia,rfl,hlt,n5⟩,fun x H2 y=>?_⟩
  obtain⟨x3,ex3,ey,ry,rp⟩:=yl x H2 y;have hd:I.xs.drop i=x3::I.xs.drop (i+1):=by
   rw[Cg hlt]
   congr 1
   rw[z8 hlt]at ex3;exact Option.some.inj ex3
  rw[hd]at out;unfold yB at out;rw[Aa hok]at out;cases w:g x3 F'.s with
  |none=>simp only[w]at out;exact out.elim
  |some s1=>
   simp only[w]at out
   refine⟨F',x3,s1,ry,ht,rp,w,fun F3 σ3 e3 b3 s3 h3 r3=>?_⟩
   have hl3:∀a,some a∉F3.l:=fun a ha=>by
    rcases e3.lam a ha with z|z
    .exact hl a z
    .obtain⟨k,hk⟩:=C8 ha
     obtain⟨u,hu,_⟩:=r3.heap.trk a (.inr (.inl ha));rw[z]at hu;cases hu
   have hoi3:F3.Oi=Oi:=e3.oi.trans hoi;have eO3:F3.O=Oi:=funext fun a=>propext ⟨sub0 F3 e3.tt hl3 hoi3 a,fun z=>.inr (.inr (by rw[hoi3];exact z))⟩
   refine⟨F3,r3,?_⟩
   rw[s3,h3];cases q:c s1 F'.h with
   |no=>simp only[q]at out;exact out.elim
   |ex x h2=>simp only[q]at out;exact out.elim
   |ok cb h2=>
    simp only[q]at out;rintro β4 cb' H4 e4 ⟨rfl,r4⟩;have ex4:Ext No β1 H1 β4 H4:=(ex.trans0 ey).trans0 (by rw[b3]at e4;exact e4)
    have k4:∀{x:List V3} {v:List V},Reps κ F'.β Oi H' x v->Reps κ β4 Oi H4 x v:=fun r=>(r.ext0 ey).ext0 (by rw[b3]at e4;exact e4)
    have hD2:H2 D=some (.lst acc):=(ey.keep D _ hacc (rel'.heap.off D ((hO D).mpr (.inl rfl))) fun z=>z).1
    have hD4:H4 D=some (.lst acc):=(e4.keep D _ hD2 (r3.heap.off D (by rw[eO3];exact .inl rfl)) fun z=>z).1
    cases cb' with
    |false=>rw[Ab An];exact⟨hD4,F3.to β4 h2,acc3,r4,e3.tt,hl3,hoi3,k4 rits,k4 racc,ex4,by show Out _ _ _ _ _ _ _ ((yB I.ok g c d (I.xs.drop (i+1)) acc3 F3.s h2).bind _);rw[s3];exact out⟩
    |true=>
     rw[Aa rfl]
     refine⟨F3.to β4 h2,r4,?_⟩
     show Out κ E0 (kE κ) (F3.to β4 h2) σ3 H4 _ (d F3.s h2);rw[s3];cases q5:d s1 h2 with
     |no=>simp only[q5]at out;exact out.elim
     |ex x h5=>simp only[q5]at out;exact out.elim
     |ok r5 h5=>
      simp only[q5]at out;intro β5 v5 H5 e5 p5;cases z:r5.fz with
      |none=>simp only[z]at out;exact out.elim
      |some y5=>
       simp only[z]at out
       by_cases hsz:acc3.length<sizeLine
       .rw[Aa hsz]at out
        obtain⟨r6,rep6⟩:=Post.fz p5 z;have hD5:H5 D=some (.lst acc):=(e5.keep D _ hD4 (r4.heap.off D (.inr (.inr (by show F3.Oi D;rw[hoi3];exact .inl rfl)))) fun z=>z).1
        have ex6:Ext (fun a=>a=D) β5 H5 β5 (zl H5 D (.lst (acc++[v5]))):=CS ⟨_,hD5⟩
        have k6:∀{x:List V3} {v:List V},Reps κ β5 Oi H5 x v->Reps κ β5 Oi (zl H5 D (.lst (acc++[v5]))) x v:=fun r=>r.ext ex6 (fun b hb=>by rw[hb];exact .inl rfl) fun _ _ _ n=>n
        have rep6:Rep κ β5 Oi H5 y5 v5:=by
         have e:((F3.to β4 h2).to β5 h5).O=Oi:=eO3;have q:Rep κ β5 ((F3.to β4 h2).to β5 h5).O H5 y5 v5:=rep6;rw[e]at q;exact q
        have k45:∀{x:List V3} {v:List V},Reps κ β4 Oi H4 x v->Reps κ β5 Oi H5 x v:=fun r=>r.ext0 e5
        refine⟨hD5,by rw[<-racc.length];exact hsz,yL,(F3.to β4 h2).to β5 h5,acc3++[y5],Rel.wrOi r6 (by show F3.Oi D;rw[hoi3];exact .inl rfl),e3.tt,hl3,hoi3,k6 (k45 (k4 rits)),k6 ((k45 (k4 racc)).append (.cons rep6 .nil)),?_,?_⟩
        .have e45:=ex4.trans0 e5
         refine⟨fun a u ha hn _=>?_,e45.len,e45.bet,fun a u ha=>?_,e45.nwb⟩
         .obtain⟨q1,q2⟩:=e45.keep a u ha hn fun z=>z
          exact⟨by rw[zW (fun z=>by subst z;rw[hD]at ha;cases ha)];exact q1,q2⟩
         .obtain⟨u',hu'⟩:=e45.there a u ha
          exact ex6.there a u' hu'
        .show Out _ _ _ _ _ _ _ ((yB I.ok g c d (I.xs.drop (i+1)) (acc3++[y5]) F3.s h5).bind _)
         rw[s3];exact out
       .rw[Ab hsz]at out;exact out.elim
 .have hi:i=I.xs.length:=by lia
  subst hi;rw[B1]at out;unfold yB at out;rw[Aa hok]at out
  refine .inl ⟨i2 (Ac _),out F'.β (.ref D) H' ex ?_⟩
  have rh:RelH κ (fun a=>a=D\/(F.to β1 h1).O a) F'.β F'.h H':=rel'.heap.sub fun a ha=>(hO a).mpr ha
  refine⟨D,rfl,Rel.nextNew (F:=F.to β1 h1) r1 ex rh hD,⟨acc,hacc,racc.sub fun a ha=>?_⟩,hD⟩
  rcases ha with z|z
  .rcases Ai.mp z with z|z
   .exact .inl z
   .exact .inr (.inl z)
  .exact .inr (.inr z)
def AE {elt tg iter:Expr} {ifs:List Expr} {loc free:List Str} {fr:List Nat} {scope:Scope} {it:I3} {g:G3} {c:T3} {d:E3} (hc:X.calm=true) (S:CompScope X loc free fr scope) (hi:PI X tg iter (ya κ E it))
 (hg:∀cl C s H ex,PG (yu X (loc++free) scope cl C s H ex) tg (zV κ g)) (ht:∀cl C s H ex,PTs (yu X (loc++free) scope cl C s H ex) ifs (zD κ E0 c)) (he:∀cl C s H ex,PE (yu X (loc++free) scope cl C s H ex) elt (zg κ E0 d))
 (hs:∀x,foldedSetIterable iter X.env x=pure x:=by intro _;rfl):PE X (.ListComp elt [⟨tg,iter,ifs,0⟩] scope pos) (zg κ E (ye loc.length fr it g c d)):=yh (LQ hc S hi hg ht he hs) fun _ _ _ h=>Fe h
def Ff {y:Str} {py spos:Pos} {elt tg iter:Expr} {ifs:List Expr} {loc free:List Str} {fr:List Nat} {scope:Scope} {it:I3} {g:G3} {c:T3} {d:E3} (hN:X.N.Nodup) (hi':X.N[i]? =some y) (hx:X.env.scope.names.lookup y=some .local) (hc:X.calm=true) (S:CompScope X loc free fr scope) (hi:PI X tg iter (ya κ E it))
 (hg:∀cl C s H ex,PG (yu X (loc++free) scope cl C s H ex) tg (zV κ g)) (ht:∀cl C s H ex,PTs (yu X (loc++free) scope cl C s H ex) ifs (zD κ E0 c)) (he:∀cl C s H ex,PE (yu X (loc++free) scope cl C s H ex) elt (zg κ E0 d))
 (hs:∀x,foldedSetIterable iter X.env x=pure x:=by intro _;rfl) (hsw:swapsWith (.ListComp elt [⟨tg,iter,ifs,0⟩] scope pos) (some (.Name y py)) spos.line X.env=pure true:=by rfl):
 PS X (.Assign [.Name y py] (.ListComp elt [⟨tg,iter,ifs,0⟩] scope pos) spos) (zo κ E (sSet i (ye loc.length fr it g c d))):=qp (HK hN hi' hx hc S hi hg ht he hs hsw) fun D σ H h=>Fe (EU h)
end
section
variable {X:Cx} {κ:Kx} {E:XK} {F F':Fr} {σ σ':L2.St} {H H1 H':Hp} {Q:VK} {p:Addr} {e a b c o:Expr} {pos apos np cpos:Pos} {i:Nat} {D:Ends}
def eNeg (p:P3):E3:=fun s h=>(p s h).bind fun f h1=>match f with
 |.x (.int i)=>.ok (.v (.int (-i))) h1
 |_=>.no
def Fg {d:P3} (ha:PE X a (zh κ E d)):PE X (.UnaryOp .USub a pos) (zg κ E (eNeg d)):=yh (K5 K6 ha) fun σ H Q ⟨F,rel,o⟩=>
 (zG (K:=kP κ) zu rel o).mono fun v H1 ⟨β1,h1,f,e1,⟨r1,rf⟩,o1⟩=>by
  match f,rf,o1 with
  |.x (.int i),rf,o1=>
   cases (show Rep κ β1 F.O H1 (.int i) v from rf)
   exact⟨i,rfl,o1 β1 _ H1 Ext.refl ⟨r1,.int _⟩⟩
def eChain (f g:F2) (a b c:P3):E3:=fun s h=>(a s h).bind fun x h1=>(b s h1).bind fun y h2=>match f s h2 x y with
 |some (.v (.bl true))=>(c s h2).bind fun z h3=>opt h3 (g s h3 y z)
 |some (.v (.bl false))=>.ok (.v (.bl false)) h2
 |_=>.no
def M8 {r r':R2} {f g:F2} {da db dc:P3} (hs:OpSim κ r f) (hs':OpSim κ r' g) (h:zg κ E (eChain f g da db dc) σ H Q):Hh r r' (zh κ E da) (zh κ E db) (zh κ E dc) σ H Q:=by
 obtain⟨F,rel,o⟩:=h
 refine (zG (K:=kP κ) zu rel o).mono fun v H1 ⟨β1,h1,f1,e1,⟨r1,rf1⟩,o1⟩=>?_
 refine (zG (F:=F.to β1 h1) (K:=kP κ) zu r1 o1).mono fun w H2 ⟨β2,h2,f2,e2,⟨r2,rf2⟩,o2⟩=>?_
 have rf1':=RfR.ext (F:=F.to β1 h1) (β':=β2) (h':=h2) r1 e2 rf1;cases q:f F.s h2 f1 f2 with
 |none=>simp only[q]at o2;exact o2.elim
 |some z=>
  refine hs (F.to β2 h2) σ H2 f1 f2 z v w _ r2 rf1' rf2 q fun u H' e p=>?_
  match z,q,p with
  |.v (.bl true),q,p=>
   simp only[q]at o2;cases (show Rep κ β2 F.O H' (.bl true) u from p.2)
   refine⟨true,rfl,?_⟩
   rw[Aa rfl];have o3:=Out.move (F:=F.to β2 h2) (h':=h2) zu e o2
   refine (zG (F:=F.to β2 h2) (K:=kP κ) zu p.1 o3).mono fun w3 H3 ⟨β3,h3,f3,e3,⟨r3,rf3⟩,o4⟩=>?_
   obtain⟨z',q',k⟩:=Out.opt (F:=F.to β3 h3) rfl o4;exact hs' (F.to β3 h3) σ H3 f2 f3 z' w w3 Q r3 (RfR.ext (F:=F.to β2 h2) (β':=β3) (h':=h3) p.1 e3 (RfR.ext (F:=F.to β2 h2) (β':=β2) (h':=h2) r2 e rf2)) rf3 q' k
  |.v (.bl false),q,p=>
   simp only[q]at o2;cases (show Rep κ β2 F.O H' (.bl false) u from p.2)
   refine⟨false,rfl,?_⟩
   rw[Ab An];exact o2 β2 _ H' e ⟨p.1,.bl _⟩
  |.v .non,q,p=>simp only[q]at o2;exact o2.elim
  |.v (.int _),q,p=>simp only[q]at o2;exact o2.elim
  |.v (.str _),q,p=>simp only[q]at o2;exact o2.elim
  |.v (.ty _),q,p=>simp only[q]at o2;exact o2.elim
  |.v (.tup _),q,p=>simp only[q]at o2;exact o2.elim
  |.v (.lst _),q,p=>simp only[q]at o2;exact o2.elim
  |.v (.scr _),q,p=>simp only[q]at o2;exact o2.elim
  |.v (.dK _),q,p=>simp only[q]at o2;exact o2.elim
  |.v (.dT _),q,p=>simp only[q]at o2;exact o2.elim
  |.v (.obj _ _),q,p=>simp only[q]at o2;exact o2.elim
  |.v (.cls _),q,p=>simp only[q]at o2;exact o2.elim
  |.v (.fn _ _),q,p=>simp only[q]at o2;exact o2.elim
  |.v (.loc _),q,p=>simp only[q]at o2;exact o2.elim
  |.m _,q,p=>simp only[q]at o2;exact o2.elim
def Iu {op op':CmpOp} {r r':R2} {f g:F2} {da db dc:P3} (hs:OpSim κ r f) (hs':OpSim κ r' g) (ho:OpR X (compareOp op) r) (ho':OpR X (compareOp op') r') (ha:PE X a (zh κ E da)) (hb:PE X b (zh κ E db)) (hc:PE X c (zh κ E dc))
 (hm:lastMarks [op,op'] [b,c]=false:=by with_unfolding_all rfl):PT X (.Compare a [op,op'] [b,c] pos) (zD κ E (tE (eChain f g da db dc))):=PTw (KA ho ho' ha hb hc hm) fun _ _ _ h=>M8 hs hs' (CN h)
abbrev Po3:=S3->H3->Res (Option Int)
def kO (κ:Kx):Kd (Option Int) (Option Int):=fun _ F σ H' i j=>j=i/\Rel κ F σ H'
def km_O:BD (kO κ):=fun _ _ _ _ _ _ _ _ _ _ _ h=>h
abbrev toOf (κ:Kx) (E:XK) (d:Po3):TO:=tOf κ E (kO κ) d
def poN:Po3:=fun _ h=>.ok none h
def poS (p:P3):Po3:=fun s h=>(p s h).bind fun f h1=>match f with
 |.x (.int i)=>.ok (some i) h1
 |_=>.no
def POw {e:Option Expr} {t t':TO} (h:PO X e t) (w:∀σ H Q,t' σ H Q->t σ H Q):PO X e t':=fun pins s σ H Q I q=>h pins s σ H Q I (w σ H Q q)
def Iv:PO X none (toOf κ E poN):=POw Lk fun σ H Q ⟨F,rel,o⟩=>o F.β none H Ext.refl ⟨rfl,rel⟩
def Em {d:P3} (ha:PE X a (zh κ E d)):PO X (some a) (toOf κ E (poS d)):=POw (Ll ha) fun σ H Q ⟨F,rel,o⟩=>
 (zG (K:=kP κ) km_O rel o).mono fun v H1 ⟨β1,h1,f,e1,⟨r1,rf⟩,o1⟩=>by
  match f,rf,o1 with
  |.x (.int i),rf,o1=>
   cases (show Rep κ β1 F.O H1 (.int i) v from rf)
   exact⟨i,rfl,o1 β1 _ H1 Ext.refl ⟨rfl,r1⟩⟩
def zH {α:Type} (xs:List α) (lo hi:Option Int):List α:=(xs.drop (HT.sIx xs.length 0 lo)).take (HT.sIx xs.length xs.length hi-HT.sIx xs.length 0 lo)
def oSl (s:S3) (h:H3) (lo hi:Option Int):Rf->Option Vl
 |.x (.tup xs)=>if HT.sIx xs.length 0 lo=0/\HT.sIx xs.length xs.length hi=xs.length then none else some (.v (.tup (zH xs lo hi)))
 |.x (.str z)=>if z.length<=sizeLine then some (.v (.str (Txt.slice z lo hi))) else none
 |f=>(rdl s h f).map fun xs=>.m (.lst (zH xs lo hi))
def eSl (p:P3) (lo hi:Po3):E3:=fun s h=>(p s h).bind fun f h1=>(lo s h1).bind fun l h2=>(hi s h2).bind fun u h3=>opt h3 (oSl s h3 l u f)
def Iw {xs:List V3} {ys:List V} {lo hi:Option Int} (r:Reps κ F.β F.O H xs ys):Reps κ F.β F.O H (zH xs lo hi) (cutV ys lo hi):=by
 unfold zH cutV;rw[r.length];exact (r.drop _).take _
def r_sl {lo hi:Option Expr} {p2:Pos} {d:P3} {dl dh:Po3} (hK:X.K=κ.K) (he:PE X a (zh κ E d)) (hl:PO X lo (toOf κ E dl)) (hu:PO X hi (toOf κ E dh)):PE X (.Subscript a (.Slice lo hi none p2) pos) (zg κ E (eSl d dl dh)):=
 yh (Lm (sl_tup.or (sl_list.or LY)) he hl hu) fun σ H Q ⟨F,rel,o⟩=>
 (zG (K:=kP κ) zu rel o).mono fun v H1 ⟨β1,h1,f,e1,⟨r1,rf⟩,o1⟩=>
 (zG (F:=F.to β1 h1) (K:=kO κ) zu r1 o1).mono fun l H2 ⟨β2,h2,l',e2,⟨el,r2⟩,o2⟩=>
 (zG (F:=F.to β2 h2) (K:=kO κ) zu r2 o2).mono fun u H3 ⟨β3,h3,u',e3,⟨eu,r3⟩,o3⟩=>by
  subst el;subst eu;obtain⟨z,q,k⟩:=Out.opt (F:=F.to β3 h3) rfl o3;have rf3:RfR κ (F.to β3 h3) H3 f v:=RfR.ext (F:=F.to β2 h2) (β':=β3) (h':=h3) r2 e3 (RfR.ext (F:=F.to β1 h1) (β':=β2) (h':=h2) r1 e2 rf);rw[hK];have lists:(rdl F.s h3 f).map (fun xs=>Vl.m (.lst (zH xs l u)))=some z->rSlL κ.K v l u H3 Q:=fun q=>by
   cases q1:rdl F.s h3 f with
   |none=>rw[q1]at q;cases q
   |some xs=>
    rw[q1]at q;cases q;obtain⟨c,ys,rfl,sq,rs⟩:=BE (F:=F.to β3 h3) r3 rf3 q1;exact⟨c,ys,rfl,sq,fun p hp=>k _ _ (yz hp) (Post.lst r3 hp (Iw rs))⟩
  match f,rf3,q,lists with
  |.s i,rf3,q,lists=>exact .inr (.inl (lists q))
  |.x (.lst _),rf3,q,lists=>exact .inr (.inl (lists q))
  |.x (.scr _),rf3,q,lists=>exact .inr (.inl (lists q))
  |.x (.loc _),rf3,q,lists=>exact .inr (.inl (lists q))
  |.x (.tup xs),rf3,q,lists=>
   have q:(if HT.sIx xs.length 0 l=0/\HT.sIx xs.length xs.length u=xs.length then none else some (Vl.v (.tup (zH xs l u))))=some z:=q
   by_cases hw:HT.sIx xs.length 0 l=0/\HT.sIx xs.length xs.length u=xs.length
   .rw[Aa hw]at q;cases q
   .rw[Ab hw]at q;cases q
    cases (show Rep κ β3 F.O H3 (.tup xs) v from rf3) with
    |tup h1 h2 h3' h4=>exact .inl ⟨_,_,rfl,.of h1,by rw[<-h4.length];exact hw,fun p hp=>k _ _ (yz hp) (Post.tup r3 hp (Iw (F:=F.to β3 h3) h4))⟩
  |.x (.str zz),rf3,q,lists=>
   obtain⟨hz,rfl⟩:=yV q;cases (show Rep κ β3 F.O H3 (.str zz) v from rf3)
   exact .inr (.inr ⟨zz,rfl,hz,k _ H3 Ext.refl ⟨r3,.str _⟩⟩)
def wr3 (s:S3) (h:H3) (c:C3):Rf->Option (S3×H3)
 |.s i=>some (s.set i (some (.m c)),h)
 |.x (.loc n)=>some (s,h.set n c)
 |_=>none
def Rel.wrSlot {l:Addr} {c0 c':C3} {u:HO} (rel:Rel κ F σ H) (hl:F.l[i]? =some (some l)) (hs:F.s[i]? =some (some (.m c0))) (hc:CellR κ F.β F.O (zl H l u) c' l):
  Rel κ {F with s:=F.s.set i (some (.m c'))} σ (zl H l u):=by
 have hO:F.O l:= .inr (.inl (Aj hl));have ex:=CS (β:=F.β) (o:=u) (rel.heap.trk' l hO)
 refine⟨rel.heap.wrO hO hc.nt,?_,?_,rel.linj,rel.lt,rel.lo,rel.to,rel.tn,fun j y hj=>?_⟩
 .show (F.s.set i _).length=_;rw[Ba];exact rel.slen
 .show F.l.length=(F.s.set i _).length;rw[Ba];exact rel.llen
 .rcases qm hj with ⟨e1,e2⟩|⟨n,z⟩
  .subst e1;cases e2
   obtain⟨v,h1,a,h2,h3,_⟩:=rel.slot i _ hs;rw[hl]at h2;cases h2;exact⟨v,h1,l,hl,h3,hc⟩
  .obtain⟨v,h1,h2⟩:=rel.slot j y z
   refine⟨v,h1,?_⟩
   cases y with
   |v x=>exact Rep.ext ex (fun b hb=>by rw[hb];exact hO) (fun _ _ _ n=>n) h2
   |m c=>
    obtain⟨a,a1,a2,a3⟩:=h2
    refine⟨a,a1,a2,a3.ext ex (fun b hb=>by rw[hb];exact hO) (fun _ _ _ n=>n) fun w hw=>?_⟩
    rw[zW (fun z=>by subst z;exact n (rel.linj i j a hl a1))];exact hw
def Iy {β:AO} {l:Addr} {o:HO} {n:Nat} (hb:β[n]? =some (some l)) (ho:∃u,H l=some u):Ext No β H β (zl H l o):=
 ⟨fun a u ha hn _=>⟨by rw[zW (fun z=>by subst z;exact hn (Aj hb))];exact ha,hn⟩,Ac _,fun _ _ _ h=>h,fun a u ha=>by
  by_cases z:a=l
  .subst z;exact⟨o,yL⟩
  .exact⟨u,by rw[zW z];exact ha⟩,nwb0⟩
def RelH.wrLoc {O:Addr->Prop} {β:AO} {h:H3} {l:Addr} {n:Nat} {c':C3} {u:HO} (r:RelH κ O β h H) (hb:β[n]? =some (some l)) (hc:CellR κ β O (zl H l u) c' l):RelH κ O β (h.set n c') (zl H l u):=by
 have ex:=Iy (o:=u) hb (r.btr' n l hb);have th:∀a w,H a=some w->(∀ys,w≠HO.tup ys)->∃w,zl H l u a=some w/\∀ys,w≠HO.tup ys:=fun a w q n=>by
  by_cases z:a=l
  .subst z;exact⟨u,yL,hc.nt⟩
  .exact⟨w,by rw[zW z];exact q,n⟩
 refine⟨by rw[Ba];exact r.len,r.inj,r.off,fun a ha=>let ⟨w,q,n⟩:=r.trk a ha;th a w q n,fun i a q=>let ⟨w,z,n⟩:=r.btr i a q;th a w z n,fun i c hi=>?_⟩
 rcases qm hi with ⟨e1,e2⟩|⟨ne,z⟩
 .subst e1;subst e2;exact .inr ⟨l,hb,hc⟩
 .refine (r.cell i c z).imp id fun ⟨a,ha,q⟩=>⟨a,ha,q.ext ex (fun _ z=>z.elim) (fun _ _ _ n=>n) fun w hw=>?_⟩
  rw[zW (fun z=>by subst z;exact ne (r.inj n i a hb ha))];exact hw
def M9 {f:Rf} {v:V} {xs ys:List V3} {s':S3} {h':H3} (ht:F.T=[]) (rel:Rel κ F σ H) (r:RfR κ F H f v) (e:rdm F.s F.h f=some xs) (hw:wr3 F.s F.h (.lst ys) f=some (s',h')):
  ∃l us,v=.ref l/\H l=some (.lst us)/\Reps κ F.β F.O H xs us/\∀ws,Reps κ F.β F.O H ys ws->∃F',SExt F H F' (zl H l (.lst ws))/\F'.s=s'/\F'.h=h'/\Rel κ F' σ (zl H l (.lst ws)):=by
 cases f with
 |s i=>
  cases hw;obtain⟨a,c,h1,h2,h3,h4⟩:=r;have e:rdl F.s F.h (.s i)=some xs:=e;simp only[rdl,h3]at e;cases c<;>simp at e
  subst e;obtain⟨us,h5,h6⟩:=h4;have hO:F.O a:= .inr (.inl (Aj h1))
  refine⟨a,us,h2,h5,h6,fun ws hr=>⟨{F with s:=F.s.set i (some (.m (.lst ys)))},⟨⟨fun b u hb hn m=>⟨by rw[zW (fun z=>by subst z;exact m (Aj h1))];exact hb,hn⟩,Ac _,fun _ _ _ h=>h,(CS (β:=F.β) ⟨_,h5⟩).there,nwb0⟩,fun _ h=>.inl h,rfl,ht⟩,rfl,rfl,rel.wrSlot h1 h3 ⟨ws,yL,hr.ext (CS (β:=F.β) ⟨_,h5⟩) (fun b hb=>by rw[hb];exact hO) fun _ _ _ n=>n⟩⟩⟩
 |x y=>
  cases y<;>simp[wr3]at hw
  case loc n=>
   obtain⟨rfl,rfl⟩:=hw;cases r with
   |loc h1 h2=>
    have e:rdl F.s F.h (.x (.loc n))=some xs:=e;simp only[rdl]at e;cases q:F.h[n]? with
    |none=>rw[q]at e;cases e
    |some c=>
     rw[q]at e;cases c<;>simp at e
     subst e
     rcases rel.heap.cell n _ q with z|⟨a,ha,us,h5,h6⟩
     .cases z
     .have ex:=fun o=>Iy (o:=o) ha ⟨_,h5⟩
      refine⟨a,us,h2 a ha,h5,h6,fun ws hr=>⟨F.to F.β (F.h.set n (.lst ys)),SExt.of0 ht (ex _),rfl,rfl,rel.next (ex _) (rel.heap.wrLoc ha ⟨ws,yL,hr.ext0 (ex _)⟩)⟩⟩
abbrev FM:=List V3->List V3->Option (List V3×V3)
def mtO (op:FM) (p:P3) (a:A3) (k:S3->H3->V3->O3):D3:=fun s h=>(p s h).bindS fun f h1=>match rdm s h1 f with
 |none=>.no
 |some _=>(a s h1).bindS fun fs h2=>match vals3 fs,rdm s h2 f with
  |some vs,some xs=>match op xs vs with
   |some (ys,r)=>match wr3 s h2 (.lst ys) f with
    |some (s3,h3)=>k s3 h3 r
    |none=>.no
   |none=>.no
  |_,_=>.no
def qc (op:FM) (p:P3) (a:A3):D3:=mtO op p a fun s h _=>.nx s h
def D0 (κ:Kx) (r:V->List V->Hp->VK->Prop) (op:FM):Prop:=∀(β:AO) (O:Addr->Prop) (H:Hp) (l:Addr) (xs ys vs:List V3) (us ws:List V) (rt:V3) (Q:VK),H l=some (.lst us)->Reps κ β O H xs us->Reps κ β O H vs ws->op xs vs=some (ys,rt)->
 (∀us' rt',Reps κ β O H ys us'->Rep κ β O H rt rt'->Q rt' (zl H l (.lst us')))->r (.ref l) ws H Q
def Iz {r:V->List V->Hp->VK->Prop} {op:FM} {dp:P3} {da:A3} {k:S3->H3->V3->O3} (hs:D0 κ r op) (rel:Rel κ F σ H) (ht:F.T=[]) (o:SOut κ E F H D (mtO op dp da k F.s F.h)) {Q:VK}
  (hQ:∀F' rt Fm Hm v H3,SExt Fm Hm F' H3->F'.s.length=F.s.length->Rel κ F' σ H3->Rep κ F'.β F'.O H3 rt v->SOut κ E Fm Hm D (k F'.s F'.h rt)->Q v H3):
  tBM κ.K "list" r (zh κ E dp) (zK κ E da) σ H Q:=by
 refine (bindS (K:=kP κ) rel ht o).mono fun v H1 ⟨β1,h1,f,e1,⟨r1,rf⟩,o1⟩=>?_
 cases q:rdm F.s h1 f with
 |none=>simp only[q]at o1;exact o1.elim
 |some xs0=>
  simp only[q]at o1;obtain⟨a,ys,rfl,ha,_⟩:=BU (F:=F.to β1 h1) r1 rf q
  refine⟨.inl ⟨rfl,ys,.of ha⟩,?_⟩
  have s1:SExt F H (F.to β1 h1) H1:=SExt.of0 ht e1
  refine (bindS (F:=F.to β1 h1) (K:=kA κ) r1 ht (SOut.move s1 o1)).mono fun ws H2 ⟨β2,h2,fs,e2,⟨r2,rfs⟩,o2⟩=>?_
  have rf2:=RfR.ext (F:=F.to β1 h1) (β':=β2) (h':=h2) r1 e2 rf;have s2:SExt (F.to β1 h1) H1 (F.to β2 h2) H2:=SExt.of0 (F:=F.to β1 h1) ht e2;cases q1:vals3 fs with
  |none=>simp only[q1]at o2;exact o2.elim
  |some vs=>
   cases q2:rdm F.s h2 f with
   |none=>simp only[q1,q2]at o2;exact o2.elim
   |some xs=>
    simp only[q1,q2]at o2;cases q3:op xs vs with
    |none=>simp only[q3]at o2;exact o2.elim
    |some w=>
     obtain⟨zs,rt⟩:=w;simp only[q3]at o2;cases q4:wr3 F.s h2 (.lst zs) f with
     |none=>simp only[q4]at o2;exact o2.elim
     |some w=>
      obtain⟨s3,h3⟩:=w;simp only[q4]at o2;obtain⟨l,us,ev,hl,rs,wk⟩:=M9 (F:=F.to β2 h2) ht r2 rf2 q2 q4;cases ev
      refine hs β2 F.O H2 a xs zs vs us ws rt _ hl rs (Ds rfs q1) q3 fun us' rt' r1' r2'=>?_
      obtain⟨F',e',es,eh,rel'⟩:=wk us' r1'
      refine hQ F' rt (F.to β2 h2) H2 _ _ e' (by rw[rel'.slen,<-rel.slen]) rel' (Rep.sext (F:=F.to β2 h2) e' r2') ?_
      rw[es,eh];exact SOut.move s2 o2
def BI {es:List Expr} {name:Str} {id:String} {r:V->List V->Hp->VK->Prop} {op:FM} {dp:P3} {da:A3} (hs:D0 κ r op) (hK:X.K=κ.K) (slot:Slot "list" name id) (hty:typeOf (.builtin id)=pure (.type "method_descriptor")) (hm:MtR X id r) (ho:PE X o (zh κ E dp)) (ha:PA X (e::es) (zK κ E da))
  (hbase:attributeBase o name X.env (eval o X.env)=eval o X.env:=by rfl)
  (hfew:((backTo cpos (starEach (e::es) X.env)).all (fun x=> !x.1) && (backToKw cpos (keywordEach [] X.env)).all (fun x=>x.1.isSome)
   && decide ((e::es).length+([]:List Keyword).length+(if ([]:List Keyword).isEmpty then 0 else 1)<30))=true:=by rfl)
  (hline:(apos.endLine==cpos.line)=true:=by rfl) (hst:SE X e es:=by rfl) (hplain:(backTo cpos (starEach es X.env)).any (·.1)=false:=by rfl)
  (hsw:swapsWith (.Call (.Attribute o name apos) (e::es) [] cpos) none pos.line X.env=pure false:=by rfl):
  PS X (.Expr (.Call (.Attribute o name apos) (e::es) [] cpos) pos) (zo κ E (qc op dp da)):=qp (GX (DX PySem.F.plainAttrs_list slot hty hm ho ha hbase hfew hline hst hplain) hsw) fun D σ H ⟨F,rel,ht,o⟩=>by
 rw[hK];exact Iz hs rel ht o fun F' rt Fm Hm v H3 e' _ rel' _ o'=>o' F' σ H3 e' rfl rfl rel'
def MA {name:Str} {id:String} {r:V->List V->Hp->VK->Prop} {op:FM} {dp:P3} (hs:D0 κ r op) (hK:X.K=κ.K) (slot:Slot "list" name id) (hty:typeOf (.builtin id)=pure (.type "method_descriptor")) (hm:MtR X id r) (ho:PE X o (zh κ E dp))
  (hbase:attributeBase o name X.env (eval o X.env)=eval o X.env:=by rfl) (hline:(apos.endLine==cpos.line)=true:=by rfl) (hsw:swapsWith (.Call (.Attribute o name apos) [] [] cpos) none pos.line X.env=pure false:=by rfl):
  PS X (.Expr (.Call (.Attribute o name apos) [] [] cpos) pos) (zo κ E (qc op dp aNil)):=qp (GX (Lv PySem.F.plainAttrs_list slot hty hm ho hbase hline) hsw) fun D σ H ⟨F,rel,ht,o⟩=>by
 rw[hK]
 refine tOf.mono (Iz (Q:=fun _ H1=>D.nx σ H1) hs rel ht o fun F' rt Fm Hm v H3 e' _ rel' _ o'=>o' F' σ H3 e' rfl rfl rel') fun x H1 ⟨h1,F1,r1,h2⟩=>⟨h1,h2 F1.β [] H1 Ext.refl ⟨r1,.nil⟩⟩
def yG:FM:=fun xs vs=>match vs with
 | [y]=>if xs.length<sizeLine then some (xs++[y],.non) else none
 |_=>none
def BJ:D0 κ Hx yG:=fun β O H l xs ys vs us ws rt Q hl rx rv e k=>by
 unfold yG at e
 split at e
 .obtain⟨h,e⟩:=yV e
  cases e;cases rv with
  |cons a t=>cases t;exact⟨l,us,_,rfl,rfl,hl,by rw[<-rx.length];exact h,k _ _ (rx.append (.cons a .nil)) .non⟩
 .cases e
def En:FM:=fun _ vs=>match vs with
 | []=>some ([],.non)
 |_=>none
def MB:D0 κ Hy En:=fun β O H l xs ys vs us ws rt Q hl rx rv e k=>by
 unfold En at e
 split at e
 .cases e;cases rv;exact⟨l,us,rfl,rfl,hl,k _ _ .nil .non⟩
 .cases e
end
section
variable {X:Cx} {κ:Kx} {E:XK} {F F':Fr} {σ σ':L2.St} {H H1 H':Hp} {Q:VK} {p:Addr} {e a b c o:Expr} {pos apos np cpos:Pos} {i:Nat} {D:Ends} {β:AO} {O:Addr->Prop}
open Classical in
def iS (p:P3):I3:=fun s h=>(p s h).bind fun f h1=>match f with
 |.x (.str z)=>.ok ⟨[],z.cps.toList.map fun c=>.str ⟨#[c]⟩,fun _=>True⟩ h1
 |_=>.no
def I0 {tg l:Expr} {d:P3} (hl:PE X l (zh κ E d)):PI X tg l (ya κ E (iS d)):=PIw (LX hl) fun σ H R ⟨F,rel,o⟩=>
 (zG (K:=kP κ) km_I rel o).mono fun v H1 ⟨β1,h1,f,e1,⟨r1,rf⟩,o1⟩=>by
  match f,rf,o1 with
  |.x (.str z),rf,o1=>
   cases (show Rep κ β1 F.O H1 (.str z) v from rf)
   refine⟨z,rfl,o1 β1 _ H1 Ext.refl ⟨r1,[],.nil,fun F' σ' H' rel' _ _ i=>?_⟩⟩
   have el:(z.cps.toList.map fun c=>V3.str ⟨#[c]⟩).length=z.length:=by simp[Str.length]
   refine⟨fun hi=>⟨show i<z.length by rw[el]at hi;exact hi,fun x H'' ⟨e1,c,hc,e2⟩=>?_⟩,fun hi=>show z.length<=i by rw[el]at hi;exact hi⟩
   subst e1;subst e2
   refine⟨.str ⟨#[c]⟩,?_,Ext.refl,rel',.str _⟩
   rw[A8,Array.getElem?_toList,hc];rfl
def oInS (neg:Bool):F2:=fun _ _ x y=>match x,y with
 |.x (.str i),.x (.str j)=>some (.v (.bl (if neg then !(!(Builtin.Str.occurrences j i 0 j.length 1).isEmpty) else !(Builtin.Str.occurrences j i 0 j.length 1).isEmpty)))
 |_,_=>none
def Fh:OpSim κ (fun x y H Q=> ∃i j,x=.str i/\y=.str j/\Q (.bl (!(Builtin.Str.occurrences j i 0 j.length 1).isEmpty)) H) (oInS false):=fun F σ H x y z v w Q rel rx ry e k=>by
 unfold oInS at e
 split at e
 .rename_i i j
  cases e;cases (show Rep κ F.β F.O H (.str i) v from rx)
  cases (show Rep κ F.β F.O H (.str j) w from ry)
  exact⟨i,j,rfl,rfl,k _ H Ext.refl ⟨rel,.bl _⟩⟩
 .cases e
end
section
variable {X:Cx} {κ:Kx} {E:XK} {F F':Fr} {σ σ':L2.St} {H H1 H':Hp} {Q:VK} {p:Addr} {e a b c o:Expr} {es:List Expr} {pos apos np cpos:Pos} {i:Nat} {D:Ends}
def yp {A:Around} {k:Nat} (hr:Room k A):A.units+9<cLine:=by have:=hr.units;lia
def D1:∀xs s s',gsNil xs s=some s'->xs.length=0:=fun xs s s' e=>by
 cases xs with
 |nil=>rfl
 |cons _ _=>cases e
def yT {g:G3} {gs:Gs3} {n:Nat} (h:∀xs s s',gs xs s=some s'->xs.length=n):∀xs s s',gsCons g gs xs s=some s'->xs.length=n+1:=fun xs s s' e=>by
 cases xs with
 |nil=>cases e
 |cons x r=>
  simp only[gsCons]at e;cases q:g x s with
  |none=>rw[q]at e;cases e
  |some s1=>rw[q]at e;rw[A4,h r s1 s' e]
def sAug (i:Nat) (f:F2) (p:P3):D3:=fun s h=>match s[i]? with
 |some (some (.v x))=>(p s h).bindS fun y h1=>match f s h1 (.x x) y with
  |some (.v z)=>.nx (s.set i (some (.v z))) h1
  |_=>.no
 |_=>.no
def yX (e:E3):E3:=fun s h=>(e s h).bind fun r h1=>match r with
 |.m c=>.ok (.v (.loc h1.length)) (h1++[c])
 |.v x=>.ok (.v x) h1
mutual
theorem Rep.grow {β:AO} {O O':Addr->Prop} {x:Addr} (hx:O x) (hs:∀a,O' a->O a):∀{v:V3} {w:V},Rep κ β O H v w->Rep κ (β++[some x]) O' H v w
 |_,_,.non=>.non
 |_,_,.bl b=>.bl b
 |_,_,.int i=>.int i
 |_,_,.str x=>.str x
 |_,_,.ty x=>.ty x
 |_,_,.tup h1 h2 h3 r=>.tup h1 (fun z=>(Aq.mp z).elim h2 fun z=>h3 (by have:=A2.mp z;cases this;exact hx)) (fun z=>h3 (hs _ z)) (Reps.grow hx hs r)
 |_,_,.lst h1 h2 h3 r=>.lst h1 (fun z=>(Aq.mp z).elim h2 fun z=>h3 (by have:=A2.mp z;cases this;exact hx)) (fun z=>h3 (hs _ z)) (Reps.grow hx hs r)
 |_,_,.scr h1 h2 h3=>.scr h1 (fun z=>(Aq.mp z).elim h2 fun z=>h3 (by have:=A2.mp z;cases this;exact hx)) (fun z=>h3 (hs _ z))
 |_,_,.scrK h=>.scrK h
 |_,_,.dK h1 h2 h3 r=>.dK h1 (fun z=>(Aq.mp z).elim h2 fun z=>h3 (by have:=A2.mp z;cases this;exact hx)) (fun z=>h3 (hs _ z)) (RepP.grow hx hs r)
 |_,_,.dT h1 h2 h3 r=>.dT h1 (fun z=>(Aq.mp z).elim h2 fun z=>h3 (by have:=A2.mp z;cases this;exact hx)) (fun z=>h3 (hs _ z)) (RepP.grow hx hs r)
 |_,_,.obj h0 h1 h2 h3 r=>.obj h0 h1 (fun z=>(Aq.mp z).elim h2 fun z=>h3 (by have:=A2.mp z;cases this;exact hx)) (fun z=>h3 (hs _ z)) (RepP.grow hx hs r)
 |_,_,.cls h=>.cls h
 |_,_,.loc h1 h2=>.loc (by rw[Ar];lia) fun a ha=>h2 a (by rw[Az h1]at ha;exact ha)
theorem Reps.grow {β:AO} {O O':Addr->Prop} {x:Addr} (hx:O x) (hs:∀a,O' a->O a):∀{v:List V3} {w:List V},Reps κ β O H v w->Reps κ (β++[some x]) O' H v w
 |_,_,.nil=>.nil
 |_,_,.cons a r=>.cons (Rep.grow hx hs a) (Reps.grow hx hs r)
theorem RepP.grow {β:AO} {O O':Addr->Prop} {x:Addr} (hx:O x) (hs:∀a,O' a->O a):∀{α:Type} {v:List (α×V3)} {w:List (α×V)},RepP κ β O H v w->RepP κ (β++[some x]) O' H v w
 |_,_,_,.nil=>.nil
 |_,_,_,.cons a r=>.cons (Rep.grow hx hs a) (RepP.grow hx hs r)
end
theorem CellR.grow {β:AO} {O O':Addr->Prop} {x:Addr} (hx:O x) (hs:∀a,O' a->O a) {c:C3} {a:Addr} (r:CellR κ β O H c a):CellR κ (β++[some x]) O' H c a:=by
 cases c with
 |lst xs=>obtain⟨_,q,r⟩:=r;exact⟨_,q,r.grow hx hs⟩
 |dK xs=>obtain⟨_,q,r⟩:=r;exact⟨_,q,r.grow hx hs⟩
 |dT xs=>obtain⟨_,q,r⟩:=r;exact⟨_,q,r.grow hx hs⟩
 |ins c fs=>obtain⟨_,_,_,k,q,r⟩:=r;exact⟨_,_,_,k,q,r.grow hx hs⟩
 |dead=>exact r.elim
theorem Rel.cell {c:C3} {x:Addr} (r1:Rel κ (F.with x) σ H) (hc:CellR κ F.β (F.with x).O H c x):Rel κ (F.to (F.β++[some x]) (F.h++[c])) σ H/\Rep κ (F.β++[some x]) F.O H (.loc F.h.length) (.ref x):=by
 have hl:F.β.length=F.h.length:=r1.heap.len;have nx:some x∉F.β:=r1.offp;have nO: ¬F.O x:=r1.apart;have hxO:(F.with x).O x:= .inl Ak
 have hs:∀a,F.O a->(F.with x).O a:=fun a ha=>Fr.O_with ha
 have rd:=r1.drop;have last:∀{i:Nat} {a:Addr},F.β.length<=i->(F.β++[some x])[i]? =some (some a)->a=x/\i=F.β.length:=fun {i a} hi h=>by
  have h0:=(Av.mp h).1;rw[Bg hi]at h;have:=Aj h;simp at this;simp at h0;exact⟨this,by lia⟩
 refine⟨⟨⟨?_,fun i j a h1 h2=>?_,fun a ha z=>?_,rd.heap.trk,fun i a q=>?_,fun i c' hc'=>?_⟩,rd.slen,rd.llen,rd.linj,rd.lt,rd.lo,rd.to,rd.tn,fun i y hy=>?_⟩,?_⟩
 .show (F.β++[some x]).length=(F.h++[c]).length;simp[hl]
 .have h1:(F.β++[some x])[i]? =some (some a):=h1
  have h2:(F.β++[some x])[j]? =some (some a):=h2
  rcases Ci i F.β.length with hi|hi<;>rcases Ci j F.β.length with hj|hj
  .rw[Az hi]at h1;rw[Az hj]at h2;exact r1.heap.inj i j a h1 h2
  .obtain⟨rfl,_⟩:=last hj h2;rw[Az hi]at h1;exact absurd (Aj h1) nx
  .obtain⟨rfl,_⟩:=last hi h1;rw[Az hj]at h2;exact absurd (Aj h2) nx
  .have a1:=(last hi h1).2;have a2:=(last hj h2).2;lia
 .have z:some a∈F.β++[some x]:=z
  rcases Aq.mp z with z|z
  .exact rd.heap.off a ha z
  .have:=A2.mp z;cases this;exact nO ha
 .have q:(F.β++[some x])[i]? =some (some a):=q
  rcases Ci i F.β.length with hi|hi
  .rw[Az hi]at q;exact r1.heap.btr i a q
  .rw[(last hi q).1];exact r1.heap.trk x hxO
 .have hc':(F.h++[c])[i]? =some c':=hc'
  rcases Ci i F.h.length with hi|hi
  .rw[Az hi]at hc'
   refine (r1.heap.cell i c' hc').imp id fun ⟨a,ha,q⟩=>⟨a,?_,q.grow hxO hs⟩
   show (F.β++[some x])[i]? =_;rw[Az (by lia)];exact ha
  .rw[Bg hi]at hc'
   have h0:=(Av.mp hc').1;simp at h0;rw[h0]at hc';cases hc';have ei:i=F.h.length:=by lia
   subst ei
   refine .inr ⟨x,?_,hc.grow hxO hs⟩
   show (F.β++[some x])[F.h.length]? =_;rw[<-hl];simp
 .obtain⟨v,h1,h2⟩:=r1.slot i y hy
  refine⟨v,h1,?_⟩
  cases y with
  |v y=>exact Rep.grow hxO hs h2
  |m c=>obtain⟨a,a1,a2,a3⟩:=h2;exact⟨a,a1,a2,a3.grow hxO hs⟩
 .refine .loc (by simp[hl]) fun a ha=>?_
  rw[<-hl]at ha;simp at ha;rw[ha]
def IA {d:E3} {σ:L2.St} {H:Hp} {Q:VK} (h:zg κ E (yX d) σ H Q):zg κ E d σ H Q:=by
 obtain⟨F,rel,o⟩:=h
 refine⟨F,rel,?_⟩
 unfold yX at o;cases q:d F.s F.h with
 |no=>rw[q]at o;exact o
 |ex x h1=>rw[q]at o;exact o
 |ok r h1=>
  rw[q]at o;intro β1 v H1 e1 p1;cases r with
  |v x=>exact o β1 v H1 e1 p1
  |m c=>
   obtain⟨x,rfl,r1,hc,hn⟩:=p1;obtain⟨r2,rl⟩:=Rel.cell (F:=F.to β1 h1) r1 hc;have nx:some x∉β1:=r1.offp
   refine o (β1++[some x]) (.ref x) H1 ⟨fun a u ha hb m=>?_,by rw[Ar];have:=e1.len;lia,fun i a hi hh=>?_,e1.there,fun i a hi hh=>?_⟩ ⟨r2,rl⟩
   .obtain⟨q1,q2⟩:=e1.keep a u ha hb m
    refine⟨q1,fun z=>?_⟩
    rcases Aq.mp z with z|z
    .exact q2 z
    .have:=A2.mp z;cases this
     rw[hn]at ha;cases ha
   .rw[Az (by have:=e1.len;lia)]at hh
    exact e1.bet i a hi hh
   .rcases Ci i β1.length with h2|h2
    .rw[Az h2]at hh;exact e1.nwb i a hi hh
    .rw[Bg h2]at hh
     have:a=x:=by have:=Aj hh;simp at this;exact this
     rw[this];exact hn
def r_gl {d:E3} (h:PE X e (zg κ E d)):PE X e (zg κ E (yX d)):=yh h fun _ _ _=>IA
end
section
variable {X:Cx} {κ:Kx} {E:XK} {F F':Fr} {σ σ':L2.St} {H H1 H':Hp} {Q:VK} {p:Addr} {e a b c o:Expr} {es:List Expr} {pos apos np cpos:Pos} {i:Nat} {D:Ends}
def str3:V3->Option Str
 |.str x=>some x
 |_=>none
theorem IB:∀{xs:List V3} {ys:List V} {bs:List Str},Reps κ F.β F.O H xs ys->zP str3 xs=some bs->ys=bs.map V.str
 |_,_,_,.nil,e=>by cases e;rfl
 |x::xs,y::ys,bs,.cons a r,e=>by
  obtain⟨b,l,h1,h2,rfl⟩:=Ik e;cases x<;>simp[str3]at h1
  subst h1;cases a;rw[Ao,IB r h2]
theorem carried_strs:∀{l:List Str} {us:List Value},Vals (l.map V.str) us->CarriedAll us (l.map fun a=>PyData.str a)
 | [],_,r=>by cases r;exact .nil
 |x::l,_,r=>by
  rw[Ao]at r;cases r with
  |cons a t=>
   obtain⟨tk,rfl⟩:=a;exact .cons (.str _ _) (carried_strs t)
end
section
variable {X:Cx} {κ:Kx} {E:XK} {a b e o tg:Expr} {pos np apos:Pos} {i:Nat}
def zc (i:Nat) {x:Str} {pos:Pos} (hN:X.N[i]? =some x:=by rfl) (hv:Vis X.env.scope x:=by first|exact Or.inl rfl|exact Or.inr (Or.inl rfl)|exact Or.inr (Or.inr rfl)) (hd:(x==("__debug__" :Str))=false:=by decide)
 (hcd:(x==("__classdict__" :Str))=false:=by decide):PE X (.Name x pos) (zh κ E (pV i)):=rp_v (pv i hN hv hd hcd)
def zi {i j pos}:PE X (.Constant (.int i) j pos) (zh κ E (kJ i)):=za HR
def MC {da db:P3} (ha:PE X a (zh κ E da)) (hb:PE X b (zh κ E db)) (hK:X.K=κ.K:=by rfl) (hm:DW b:=by exact fun _ _=>rfl):PE X (.Subscript a b pos) (zg κ E (eOp yk da db)):=r_ix Ic (Ib hK) hm ha hb
def BK {da db:P3} (ha:PE X a (zh κ E da)) (hb:PE X b (zh κ E db)) (hK:X.K=κ.K:=by rfl) (hm:DW b:=by exact fun _ _=>rfl):PE X (.Subscript a b pos) (zh κ E (pE (eOp yk da db))):=za (r_ix Ic (Ib hK) hm ha hb)
def zI (i:Nat) {x:Str} {pos':Pos} {d:E3} (hN:X.N.Nodup) (he:PE X e (zg κ E d)) (hi:X.N[i]? =some x:=by rfl) (hx:Loc X.env.scope x:=by exact Or.inl rfl) (hs:swapsWith e (some (.Name x pos')) pos.line X.env=pure false:=by rfl)
 (hf:X.fn x=true\/X.env.scope.names.lookup x=some .local:=by first|exact .inl rfl|exact .inr rfl|assumption):PS X (.Assign [.Name x pos'] e pos) (zo κ E (sSet i d)):=Mc hN hi hx he hs hf
def yH (i:Nat) {x:Str} {pos:Pos} (hN:X.N.Nodup) (hi:X.N[i]? =some x:=by rfl) (hx:Loc X.env.scope x:=by exact Or.inl rfl) (hf:X.fn x=true\/X.env.scope.names.lookup x=some .local:=by first|exact .inl rfl|exact .inr rfl|assumption):PG X (.Name x pos) (zV κ (gN i)):=HV (GZ hN hi hx hf)
def zO {x:Str} {pos:Pos} (i:Nat) (N:List Str) (nd:N.Nodup:=by decide+kernel) (eN:X.N=N:=by rfl) (hi:N[i]? =some x:=by rfl) (hx:Loc X.env.scope x:=by exact Or.inl rfl) (hl:X.env.scope.names.lookup x=some .local:=by rfl):PG X (.Name x pos) (zV κ (gN i)):=HV (pgc i N nd eN hi hx hl)
def AS {iter:Expr} {body:List Stmt} {it:I3} {g:G3} {b:D3} (hi:PI X tg iter (ya κ E it)) (hg:PG X tg (zV κ g)) (hb:yj X body (zo κ E b)) (hp:PassesOwn (model X.prog X.w) X.A X.env X.xe:=by exact PassesOwn.leaving) (hc:X.calm=true:=by rfl)
 (hs:∀x,foldedSetIterable iter X.env x=pure x:=by intro _;rfl):PS X (.For tg iter body [] pos) (zo κ E (zx it g b)):=Mh hp hc hi hg hb hs
def yU {l:Expr} {d:P3} (hl:PE X l (zh κ E d)) (hK:X.K=κ.K:=by rfl):PI X tg l (ya κ E (iL d)):=Mj hK hl
def zt {N P:List Str} {sc:Scope} (k1:sc.kind=.function:=by rfl) (k2:sc.isCoroutine=false:=by rfl) (k3:sc.isGenerator=false:=by rfl) (k4:N.Nodup:=by decide+kernel) (k5:N.take P.length=P:=by rfl)
 (k6:∀x∈P,sc.names.lookup x=some .local\/sc.names.lookup x=some .cell:=by decide+kernel) (k7:∀y∈sc.names,y.2≠ .free:=by decide+kernel):FnScope N P sc:=⟨k1,k2,k3,k4,k5,k6,k7⟩
def zw {x:Str} {st:Stmt} {es:List Expr} {f:F3} {t:A3} {k k0:Nat} {fa:Addr} {fd:FuncData} {ps:List Str} {n:Nat} (hf:zq f n) (Fk:FnOk X.prog X.w X.K X.mg X.base (XT X.prog X.w) k fa fd ps (zn κ n f)) (hr:Room k0 X.A) (d:Dfn X.K X.mg x st ps fa fd) (ha:PA X (e::es) (zK κ E t)) (hx:CL (XT X.prog X.w) X E:=by exact Mn) (hk:k<=k0:=by decide) (hg:Gl X x:=by rfl)
 (hdb:(x==("__debug__" :Str))=false:=by decide) (he:SE X e es:=by rfl) (hpl:BA X pos es:=by rfl):
 PE X (.Call (.Name x np) (e::es) [] pos) (zg κ E (eCall f t)):=AN hf Fk (hr.mono hk) hg d.g d.F.kp d.b hx ha hdb he hpl
def yq {x:Str} {es:List Expr} {t:A3} {id:String} {r:List V->Hp->VK->Prop} {f:FB} (hs:qa κ r f) (hc:ym X (.builtin id) r) (hm:X.mg x=none) (hv:bootBuiltins x=some (.builtin id)) (ha:PA X (e::es) (zK κ E t)) (hg:Gl X x:=by rfl) (hn:x≠"__name__" :=by decide) (hdb:(x==("__debug__" :Str))=false:=by decide)
 (he:SE X e es:=by rfl) (hpl:BA X pos es:=by rfl):
 PE X (.Call (.Name x np) (e::es) [] pos) (zg κ E (eB f t)):=r_b hs hc hg hm hv ha hn hdb he hpl
end
def spL (K:FG):Sp:=fun vs H Q _=> ∃(a:Addr) (ns:List Int),vs=[.ref a]/\ns.length<=63/\SqL K H a (ns.map V.int)/\Only H/\∀H',Q (.bl true) H'
def spL_of {κ:Kx} {f:F3} (h:∀ns:List Int,ns.length<=63->∃h',f [.scr ns] []=.ok (.v (.bl true)) h') {vs:List V} {H:Hp} {Q:VK} {E:XK} (q:spL κ.K vs H Q E):zn κ 1 f vs H Q E:=by
 obtain⟨a,ns,rfl,hn,hS,hO,hQ⟩:=q;obtain⟨h',e⟩:=h ns hn
 refine⟨fun _=>False,[],[.scr ns],[],rfl,⟨rfl,fun i j a h=>by simp at h,fun a h=>h.elim,fun a h=>h.elim,fun i a h=>by simp at h,fun i c h=>by simp at h⟩,.cons ?_ .nil,?_⟩
 .rcases hS with hS|hS
  .rcases hS with hS|⟨o,hS⟩
   .rcases hO a with z|⟨o,xs,z⟩
    .rw[hS]at z;cases z
    .rw[hS]at z;cases z
   .exact .scr hS (by simp) fun z=>z
  .exact .scrK hS
 .rw[e]
  intro β' v H' ex p;obtain⟨_,r⟩:=p;cases r;exact hQ H'
def noX {P:Program} {w:World} {H:Hp} {s:Shared} {e:Value} {s':Shared} (h:XT P w [] H s (fun _ _ _=>False) e s'):False:=by
 obtain⟨_,_,_,_,_,_,_,_,_,_,_,_,_,_,_,q⟩:=h;exact q
end L3
namespace L3
open PySem L2
def Fi {a b:D3} {s s1:S3} {h h1:H3} (e:a s h=.nx s1 h1):sSeq a b s h=b s1 h1:=by unfold sSeq;rw[e]
def MD {ok:H3->Prop} {g:G3} {b:D3} {h:H3} {Q:O3->Prop} (I:Nat->S3->Prop) {xs:List V3} {s:S3} (hok:ok h) (h0:I 0 s)
  (step:∀(i:Nat) x s,xs[i]? =some x->I i s->∃s1,g x s=some s1/\((∃s2,(b s1 h=.nx s2 h\/b s1 h=.ct s2 h)/\I (i+1) s2)\/(∃r h2,b s1 h=.rt r h2/\Q (.rt r h2))\/∃s2,b s1 h=.bk s2 h/\Q (.nx s2 h)))
  (done:∀s,I xs.length s->Q (.nx s h)):Q (zC ok g b xs s h):=by
 have gen:∀(n i:Nat) (s:S3),n=xs.length-i->i<=xs.length->I i s->Q (zC ok g b (xs.drop i) s h):=by
  intro n
  induction n with
  |zero=>
   intro i s hn hi hI;have:i=xs.length:=by lia
   subst this;rw[B1];unfold zC;rw[Aa hok];exact done s hI
  |succ n ih=>
   intro i s hn hi hI;have hlt:i<xs.length:=by lia
   rw[Cg hlt];unfold zC;rw[Aa hok];obtain⟨s1,hg,hs⟩:=step i xs[i] s (z8 hlt) hI;simp only[hg]
   rcases hs with ⟨s2,hb,hI2⟩|⟨r,h2,hb,hq⟩|⟨s2,hb,hq⟩
   .rcases hb with hb|hb<;>simp only[hb]<;>exact ih (i+1) s2 (by lia) hlt hI2
   .simp only[hb];exact hq
   .simp only[hb];exact hq
 exact gen _ 0 s rfl (By _) h0
def IC {ok:H3->Prop} {g:G3} {b:D3} {h:H3} (I:Nat->S3->Prop) {xs:List V3} {s:S3} (hok:ok h) (h0:I 0 s)
  (step:∀(i:Nat) x s,xs[i]? =some x->I i s->∃s1 s2,g x s=some s1/\b s1 h=.nx s2 h/\I (i+1) s2):∃s',zC ok g b xs s h=.nx s' h/\I xs.length s':=by
 refine MD (Q:=fun o=> ∃s',o=.nx s' h/\I xs.length s') I hok h0 (fun i x s hx hI=>?_) fun s hI=>⟨s,rfl,hI⟩
 obtain⟨s1,s2,h1,h2,h3⟩:=step i x s hx hI;exact⟨s1,h1,.inl ⟨s2,.inl h2,h3⟩⟩
def Fj {α:Type} {ok:H3->Prop} {g:G3} {e:E3} {h:H3} (I:S3->Prop) (enc:α->V3) (f:α->V3) (hok:ok h) {l:List α} (hl:l.length<=sizeLine)
  (step:∀a s,a∈l->I s->∃s1 r,g (enc a) s=some s1/\I s1/\e s1 h=.ok r h/\r.fz=some (f a)) {s:S3} (h0:I s):
  yB ok g tTru e (l.map enc) [] s h=.ok (l.map f) h:=by
 have gen:∀(l:List α) (acc:List V3) (s:S3),acc.length+l.length<=sizeLine->(∀a s,a∈l->I s->∃s1 r,g (enc a) s=some s1/\I s1/\e s1 h=.ok r h/\r.fz=some (f a))->I s->yB ok g tTru e (l.map enc) acc s h=.ok (acc++l.map f) h:=by
  intro l
  induction l with
  |nil=>intro acc s _ _ _;rw[Bp];unfold yB;rw[Aa hok];simp
  |cons x r ih=>
   intro acc s hl st hI;rw[Ao];unfold yB;rw[Aa hok];obtain⟨s1,v,h1,h2,h5,h6⟩:=st x s Ak hI;rw[A4]at hl;simp only[h1,tTru,h5,h6,Aa (show acc.length<sizeLine by lia)]
   rw[ih (acc++[f x]) s1 (by rw[Ar,Cq];lia) (fun x s hx=>st x s (Ap _ hx)) h2]
   simp
 have:=gen l [] s (by simpa using hl) step h0
 simpa using this
def ME {α:Type} {ok:H3->Prop} {g:G3} {c:T3} {e:E3} {h:H3} (I:S3->Prop) (enc:α->V3) (p:α->Bool) (f:α->V3) (hok:ok h) {l:List α} (hl:l.length<=sizeLine)
  (step:∀a s,a∈l->I s->∃s1,g (enc a) s=some s1/\I s1/\c s1 h=.ok (p a) h/\(p a=true->∃r,e s1 h=.ok r h/\r.fz=some (f a))) {s:S3} (h0:I s):
  yB ok g c e (l.map enc) [] s h=.ok ((l.filter p).map f) h:=by
 have gen:∀(l:List α) (acc:List V3) (s:S3),acc.length+l.length<=sizeLine->(∀a s,a∈l->I s->∃s1,g (enc a) s=some s1/\I s1/\c s1 h=.ok (p a) h/\(p a=true->∃r,e s1 h=.ok r h/\r.fz=some (f a)))->I s->yB ok g c e (l.map enc) acc s h=.ok (acc++(l.filter p).map f) h:=by
  intro l
  induction l with
  |nil=>intro acc s _ _ _;rw[Bp];unfold yB;rw[Aa hok];simp
  |cons x r ih=>
   intro acc s hl st hI;rw[Ao];unfold yB;rw[Aa hok];obtain⟨s1,h1,h2,h3,h4⟩:=st x s Ak hI;rw[A4]at hl;simp only[h1,h3];cases q:p x with
   |false=>
    simp only[List.filter_cons,q];exact ih acc s1 (by lia) (fun x s hx=>st x s (Ap _ hx)) h2
   |true=>
    obtain⟨v,h5,h6⟩:=h4 q;simp only[h5,h6,List.filter_cons,q,Aa (show acc.length<sizeLine by lia)]
    rw[ih (acc++[f x]) s1 (by rw[Ar,Cq];lia) (fun x s hx=>st x s (Ap _ hx)) h2]
    simp
 have:=gen l [] s (by simpa using hl) step h0
 simpa using this
def MF (l:List Bool):zP bl3 (l.map .bl)=some l:=by
 have:=Fb (f:=bl3) (g:=V3.bl) (k:=id) (fun _=>rfl) l
 simpa using this
def at0 {α:Type} {x:α} {r:List α}:atI (x::r) (0:Int)=some x:=AJ (j:=0) rfl
def at1 {α:Type} {x y:α} {r:List α}:atI (x::y::r) (1:Int)=some y:=AJ (j:=1) rfl
def at2 {α:Type} {x y z:α} {r:List α}:atI (x::y::z::r) (2:Int)=some z:=AJ (j:=2) rfl
def at3 {α:Type} {x y z u:α} {r:List α}:atI (x::y::z::u::r) (3:Int)=some u:=AJ (j:=3) rfl
def at4 {α:Type} {x y z u v:α} {r:List α}:atI (x::y::z::u::v::r) (4:Int)=some v:=AJ (j:=4) rfl
def AU {i j:Int} (h: -(2 ^ 64)<i/\i<2 ^ 64):CMul i j:= .inl h
def ID {h:H3} {n:Nat} {x y:V3} {a b:V} (hx:yK h x=.f a) (hy:yK h y=.f b):zX h n x y=some (eqV a b):=by
 cases n<;>simp only[zX,hx,hy]
def D2 {h:H3} {n:Nat} {i j:Int}:zX h n (.int i) (.int j)=some (decide (i=j)):=by
 rw[ID (a:= .int i) (b:= .int j) rfl rfl];congr 1
def Fl {h:H3} {n:Nat} {i j:Str}:zX h n (.str i) (.str j)=some (decide (i=j)):=by
 rw[ID (a:= .str i) (b:= .str j) rfl rfl];congr 1
def nx_ite {c:Prop} [Decidable c] {a b:S3} {h:H3}:(if c then O3.nx a h else O3.nx b h)=O3.nx (if c then a else b) h:=by split<;>rfl
def rt_ite {c:Prop} [Decidable c] {a b:Vl} {h:H3}:(if c then O3.rt a h else O3.rt b h)=O3.rt (if c then a else b) h:=by split<;>rfl
def ok_ite {α:Type} {c:Prop} [Decidable c] {a b:α} {h:H3}:(if c then Res.ok a h else Res.ok b h)=Res.ok (if c then a else b) h:=by split<;>rfl
def cons_ite {α:Type} {c:Prop} [Decidable c] {a b:α} {x y:List α}:(if c then a::x else b::y)=(if c then a else b)::(if c then x else y):=by split<;>rfl
def some_ite {α:Type} {c:Prop} [Decidable c] {a b:α}:(if c then some a else some b)=some (if c then a else b):=by split<;>rfl
def v_ite {c:Prop} [Decidable c] {a b:V3}:(if c then Vl.v a else Vl.v b)=Vl.v (if c then a else b):=by split<;>rfl
def int_ite {c:Prop} [Decidable c] {a b:Int}:(if c then V3.int a else V3.int b)=V3.int (if c then a else b):=by split<;>rfl
def bl_ite {c:Prop} [Decidable c] {a b:Bool}:(if c then V3.bl a else V3.bl b)=V3.bl (if c then a else b):=by split<;>rfl
def oEq_int {s:S3} {h:H3} {i j:Int}:yd s h (.x (.int i)) (.x (.int j))=some (.v (.bl (decide (i=j)))):=by
 unfold yd yJ;simp only[rdm,rdl,D2,A0]
def oNe_int {s:S3} {h:H3} {i j:Int}:yf s h (.x (.int i)) (.x (.int j))=some (.v (.bl (!decide (i=j)))):=by
 unfold yf yJ;simp only[rdm,rdl,D2,A0]
def oAdd_int {s:S3} {h:H3} {i j:Int}:zm s h (.x (.int i)) (.x (.int j))=some (.v (.int (i+j))):=rfl
def oAddI_int {s:S3} {h:H3} {i j:Int}:Dy s h (.x (.int i)) (.x (.int j))=some (.v (.int (i+j))):=rfl
def oSub_int {s:S3} {h:H3} {i j:Int}:oSub s h (.x (.int i)) (.x (.int j))=some (.v (.int (i-j))):=rfl
def oMul_int {s:S3} {h:H3} {i j:Int} (c:CMul i j):zZ s h (.x (.int i)) (.x (.int j))=some (.v (.int (i*j))):=by
 unfold zZ yW EW oI;simp only[Aa c,A0]
def oDiv_int {s:S3} {h:H3} {i j:Int} (a:0<j) (b:j<1073741824):zE s h (.x (.int i)) (.x (.int j))=some (.v (.int (i / j))):=by
 unfold zE oI;simp only[Aa (show CDiv i j from ⟨a,b⟩),A0]
def oMod_int {s:S3} {h:H3} {i j:Int} (c:0<j):zA s h (.x (.int i)) (.x (.int j))=some (.v (.int (i%j))):=by
 unfold zA oI;simp only[Aa c,A0]
def oShr_int {s:S3} {h:H3} {i j:Int} (c:0<=j):oShr s h (.x (.int i)) (.x (.int j))=some (.v (.int (i / 2 ^ j.toNat))):=by
 unfold oShr oI;simp only[Aa c,A0]
def oPow_int {s:S3} {h:H3} {i j:Int} (c:CPow i j):oPow s h (.x (.int i)) (.x (.int j))=some (.v (.int (i ^ j.toNat))):=by
 unfold oPow oI;simp only[Aa c,A0]
def oAndI_int {s:S3} {h:H3} {i j:Int}:Ms s h (.x (.int i)) (.x (.int j))=some (.v (.int (Builtin.bitAnd i j))):=rfl
def oLt_int {s:S3} {h:H3} {i j:Int}:oLt s h (.x (.int i)) (.x (.int j))=some (.v (.bl (decide (i<j)))):=rfl
def oLe_int {s:S3} {h:H3} {i j:Int}:oLe s h (.x (.int i)) (.x (.int j))=some (.v (.bl (decide (i<=j)))):=rfl
def oGt_int {s:S3} {h:H3} {i j:Int}:oGt s h (.x (.int i)) (.x (.int j))=some (.v (.bl (decide (j<i)))):=rfl
def oGe_int {s:S3} {h:H3} {i j:Int}:oGe s h (.x (.int i)) (.x (.int j))=some (.v (.bl (decide (j<=i)))):=rfl
def oIx_tup {s:S3} {h:H3} {xs:List V3} {i:Int}:yk s h (.x (.tup xs)) (.x (.int i))=(atI xs i).map .v:=by
 unfold yk yW oIxT oIxL oIxS;simp only[rdl];cases atI xs i<;>rfl
def oIx_lst {s:S3} {h:H3} {xs:List V3} {i:Int}:yk s h (.x (.lst xs)) (.x (.int i))=(atI xs i).map .v:=by
 unfold yk yW oIxT oIxL oIxS;simp only[rdl];cases atI xs i<;>rfl
def oIx_scr {s:S3} {h:H3} {ns:List Int} {i:Int}:yk s h (.x (.scr ns)) (.x (.int i))=(atI (ns.map .int) i).map .v:=by
 unfold yk yW oIxT oIxL oIxS;simp only[rdl];cases atI (ns.map V3.int) i<;>rfl
def sMt_ap {op:FM} {p:P3} {a:A3} {s:S3} {h:H3}:qc op p a s h=mtO op p a (fun s h _=>.nx s h) s h:=rfl
def mAppend_ok {xs:List V3} {y:V3} (h:xs.length<sizeLine):yG xs [y]=some (xs++[y],.non):=by unfold yG;simp only[Aa h]
def yw:1000000<=sizeLine:=by decide
def sz0:(0<=sizeLine)=True:=by simp
def sz1:(1<=sizeLine)=True:=eq_true (by have:=yw;lia)
def sz2:(2<=sizeLine)=True:=eq_true (by have:=yw;lia)
def sz3:(3<=sizeLine)=True:=eq_true (by have:=yw;lia)
def sz4:(4<=sizeLine)=True:=eq_true (by have:=yw;lia)
def sz5:(5<=sizeLine)=True:=eq_true (by have:=yw;lia)
def gb (g:G3) (b:D3) (x:V3) (s:S3) (h:H3):O3:=match g x s with
 |some s1=>b s1 h
 |none=>.no
def BL {Q:Res Vl->Prop} {k n:Nat} {b:D3} {vs:List V3} {h:H3} (hl:vs.length=k) (q:Q ((b (start3 n vs) h).res)):Q (fun3 k n b vs h):=by
 unfold fun3;rw[Aa hl];exact q
def MG {α:Type} {p:P3} {g:G3} {b:D3} {s:S3} {h:H3} {x:V3} {ok:H3->Prop} {enc:α->V3} {l:List α} (ep:p s h=.ok (.x x) h) (hw:yM h x=some (l.map enc,ok))
  (I:Nat->S3->Prop) (h0:I 0 s) (step:∀(i:Nat) a s,l[i]? =some a->I i s->∃s2,gb g b (enc a) s h=.nx s2 h/\I (i+1) s2):∃s',zx (iL p) g b s h=.nx s' h/\I l.length s':=by
 have hf:zx (iL p) g b s h=zC ok g b (l.map enc) s h:=by
  unfold zx iL;simp only[ep,Res.bind,Res.bindS,hw]
 rw[hf];have:=IC (ok:=ok) (g:=g) (b:=b) (h:=h) I (xs:=l.map enc) (s:=s) (Dw hw).1 h0 fun i x s hx hI=>by
  rw[A8]at hx;obtain⟨a,ha,rfl⟩:=Cr.1 hx;obtain⟨s2,e,hI2⟩:=step i a s ha hI;unfold gb at e;cases q:g (enc a) s with
  |none=>rw[q]at e;cases e
  |some s1=>rw[q]at e;exact⟨s1,s2,rfl,e,hI2⟩
 rwa [Ad]at this
def MH {Q:O3->Prop} {α:Type} {p:P3} {g:G3} {b r:D3} {s:S3} {h:H3} {x:V3} {ok:H3->Prop} {enc:α->V3} {l:List α} (ep:p s h=.ok (.x x) h) (hw:yM h x=some (l.map enc,ok))
  (I:Nat->S3->Prop) (h0:I 0 s) (step:∀(i:Nat) a s,l[i]? =some a->I i s->∃s2,gb g b (enc a) s h=.nx s2 h/\I (i+1) s2) (k:∀s',I l.length s'->Q (r s' h)):Q (sSeq (zx (iL p) g b) r s h):=by
 obtain⟨s',e,hI⟩:=MG ep hw I h0 step;rw[Fi e];exact k s' hI
def MI {a:A3} {g:G3} {b:D3} {s:S3} {h:H3} {j:Int} (ea:a s h=.ok [.x (.int j)] h) (hj: -(2 ^ 62)<=j/\j<2 ^ 62)
  (I:Nat->S3->Prop) (h0:I 0 s) (step:∀(i:Nat) s,i<j.toNat->I i s->∃s2,gb g b (.int (i:Int)) s h=.nx s2 h/\I (i+1) s2):∃s',zx (iR1 a) g b s h=.nx s' h/\I j.toNat s':=by
 have hf:zx (iR1 a) g b s h=zC (fun _=>True) g b ((List.range j.toNat).map fun k=>.int (0+((k:Nat):Int))) s h:=by
  unfold zx iR1;simp only[ea,Res.bind,Res.bindS,Aa hj]
 rw[hf];have:=IC (ok:=fun _=>True) (g:=g) (b:=b) (h:=h) I (xs:=(List.range j.toNat).map fun k=>.int (0+((k:Nat):Int))) (s:=s) trivial h0 fun i x s hx hI=>by
  have hi:i<j.toNat:=by
   have:=Av.1 hx;simpa using this.1
  rw[A8,List.getElem?_range hi]at hx
  cases hx;obtain⟨s2,e,hI2⟩:=step i s hi hI;simp only[Int.zero_add];unfold gb at e;cases q:g (.int i) s with
  |none=>rw[q]at e;cases e
  |some s1=>rw[q]at e;exact⟨s1,s2,rfl,e,hI2⟩
 rwa [Ad,Cy]at this
def MJ {Q:O3->Prop} {a:A3} {g:G3} {b r:D3} {s:S3} {h:H3} {j:Int} (ea:a s h=.ok [.x (.int j)] h) (hj: -(2 ^ 62)<=j/\j<2 ^ 62)
  (I:Nat->S3->Prop) (h0:I 0 s) (step:∀(i:Nat) s,i<j.toNat->I i s->∃s2,gb g b (.int (i:Int)) s h=.nx s2 h/\I (i+1) s2) (k:∀s',I j.toNat s'->Q (r s' h)):Q (sSeq (zx (iR1 a) g b) r s h):=by
 obtain⟨s',e,hI⟩:=MI ea hj I h0 step;rw[Fi e];exact k s' hI
def zR {Q:Res Vl->Prop} {a b:D3} {s s1:S3} {h h1:H3} (e:a s h=.nx s1 h1) (q:Q ((b s1 h1).res)):Q ((sSeq a b s h).res):=by rw[Fi e];exact q
def ML {Q:Res Vl->Prop} {a:A3} {g:G3} {b r:D3} {s:S3} {h:H3} {j:Int} (ea:a s h=.ok [.x (.int j)] h) (hj: -(2 ^ 62)<=j/\j<2 ^ 62)
  (I:Nat->S3->Prop) (h0:I 0 s) (step:∀(i:Nat) s,i<j.toNat->I i s->∃s2,gb g b (.int (i:Int)) s h=.nx s2 h/\I (i+1) s2) (k:∀s',I j.toNat s'->Q ((r s' h).res)):Q ((sSeq (zx (iR1 a) g b) r s h).res):=
 MJ (Q:=fun o=>Q o.res) ea hj I h0 step k
def Fo {Q:Res Vl->Prop} {α:Type} {p:P3} {g:G3} {b r:D3} {s:S3} {h:H3} {x:V3} {ok:H3->Prop} {enc:α->V3} {l:List α} (ep:p s h=.ok (.x x) h) (hw:yM h x=some (l.map enc,ok))
  (I:Nat->S3->Prop) (h0:I 0 s) (step:∀(i:Nat) a s,l[i]? =some a->I i s->∃s2,gb g b (enc a) s h=.nx s2 h/\I (i+1) s2) (k:∀s',I l.length s'->Q ((r s' h).res)):Q ((sSeq (zx (iL p) g b) r s h).res):=
 MH (Q:=fun o=>Q o.res) ep hw I h0 step k
end L3
namespace L3
open PySem PySem.Spec PyProof.Rows L2
section
variable {X:Cx} {κ:Kx} {E:XK} {F:Fr} {σ:L2.St} {H:Hp}
def MM {i:Nat} {pos:Pos} {y:Str} {py spos:Pos} {elt tg iter:Expr} {ifs:List Expr} {loc free:List Str} {fr:List Nat} {scope:Scope} {it:I3} {g:G3} {c:T3} {d:E3} (hN:X.N.Nodup) (hi':X.N[i]? =some y) (hx:X.env.scope.names.lookup y=some .local) (hc:X.calm=true) (S:CompScope X loc free fr scope) (hi:PI X tg iter (ya κ E it))
 (hg:∀cl C s H ex,PG (yu X (loc++free) scope cl C s H ex) tg (zV κ g)) (ht:∀cl C s H ex,PTs (yu X (loc++free) scope cl C s H ex) ifs (zD κ E0 c)) (he:∀cl C s H ex,PE (yu X (loc++free) scope cl C s H ex) elt (zg κ E0 d))
 (hs:∀x,foldedSetIterable iter X.env x=pure x:=by intro _;rfl) (hsw:swapsWith (.ListComp elt [⟨tg,iter,ifs,0⟩] scope pos) (some (.Name y py)) spos.line X.env=pure true:=by rfl):
 PS X (.Assign [.Name y py] (.ListComp elt [⟨tg,iter,ifs,0⟩] scope pos) spos) (zo κ E (sSet i (yX (ye loc.length fr it g c d)))):=qp (HK hN hi' hx hc S hi hg ht he hs hsw) fun D σ H h=>Fe (IA (EU h))
end
end L3
namespace L2
open PySem PySem.Spec PyProof.Rows
open PySem.Builtin.Str (occurrences)
section
variable {X:Cx} {e a b c o:Expr} {ta tb tc:TE} {pos:Pos}
theorem IE:∀(l:List Str) (t:Nat),Vals (l.map V.str) (strsFrom t l)
 | [],_=>.nil
 |x::r,t=>.cons ⟨t,rfl⟩ (IE r (t+1))
def MN (x y:Str):(Txt.split x y).length<=x.length+2:=PyProof.Rows.split_le x y
def MO:V->List V->Hp->VK->Prop:=fun x xs H Q=> ∃z y,x=.str z/\xs=[.str y]/\z.length<=100000/\(y.length==0)=false/\∀l,H l=none->Q (.ref l) (zl H l (.lst ((PySem.Txt.split z y).map V.str)))
def MP:MtR X "str.split" MO:=by
 intro pins s σ H x xs v us Q I rx rs h;obtain⟨z,y,rfl,rfl,hz,hy,q⟩:=h;obtain⟨t,rfl⟩:=rx;obtain⟨u,rfl,ru⟩:=qh rs;obtain⟨t2,rfl⟩:=ru;have hl:=MN z y;have sz:100000+2<=sizeLine:=by decide
 have fin:∀(its:List Value) (t':Nat),Vals ((PySem.Txt.split z y).map V.str) its->EP X pins σ Q (.ref s.heap.objs.size) {s with heap:=s.heap.push {cls:= .type "list",data:= .seq its.toArray},toks:=t'}:=fun its t' r=>
  ⟨.ref s.heap.objs.size,_,I.lnew r (by rw[Ad];lia),rfl,q _ I.fresh⟩
 unfold PySem.Txt.split at fin hl;cases h1:(decide (z.length<y.length) || decide (Builtin.Str.strKind z<Builtin.Str.strKind y)) with
 |true=>
  rw[Aa h1]at fin;exact Bt F.slot_str_split rfl F.entry_str_split (F.args_str_split_2 _ _) (meets_str_split_cannot_occur z y t t2 h1) (fin [.str z t] s.toks (.cons ⟨t,rfl⟩ .nil))
 |false=>
  rw[Ab (by rw[h1];decide)]at fin hl
  cases hf:(occurrences z y 0 z.length (z.length+1)).isEmpty with
  |true=>
   rw[Aa hf]at fin;exact Bt F.slot_str_split rfl F.entry_str_split (F.args_str_split_2 _ _) (meets_str_split_not_found z y t t2 h1 hy hf) (fin [.str z t] s.toks (.cons ⟨t,rfl⟩ .nil))
  |false=>
   rw[Ab (by rw[hf];decide)]at fin hl
   exact Bt F.slot_str_split rfl F.entry_str_split (F.args_str_split_2 _ _) (meets_str_split_sep z y t t2 h1 hy hf (by lia) (by lia)) (fin _ _ (IE _ _))
def MQ:V->List V->Hp->VK->Prop:=fun x xs H Q=> ∃z y,x=.str z/\xs=[.str y]/\z.length<=100000/\(y.length==0)=false/\∀l,H l=none->Q (.ref l) (zl H l (.tup [.str (PySem.Txt.partition z y).1,.str (PySem.Txt.partition z y).2.1,.str (PySem.Txt.partition z y).2.2]))
def MR:MtR X "str.partition" MQ:=by
 intro pins s σ H x xs v us Q I rx rs h;obtain⟨z,y,rfl,rfl,hz,hy,q⟩:=h;obtain⟨t,rfl⟩:=rx;obtain⟨u,rfl,ru⟩:=qh rs;obtain⟨t2,rfl⟩:=ru;have sz:100000+2<=sizeLine:=by decide
 have fin:∀(its:List Value) (t':Nat),Vals [.str (PySem.Txt.partition z y).1,.str (PySem.Txt.partition z y).2.1,.str (PySem.Txt.partition z y).2.2] its->EP X pins σ Q (.ref s.heap.objs.size) {s with heap:=s.heap.push {cls:= .type "tuple",data:= .seq its.toArray},toks:=t'}:=fun its t' r=>
  ⟨.ref s.heap.objs.size,_,I.laid (o:= .tup [.str (PySem.Txt.partition z y).1,.str (PySem.Txt.partition z y).2.1,.str (PySem.Txt.partition z y).2.2]) (t':=t') (fun b u e=>Aw _ e) (Ac _) ⟨by show 3<=_;lia,its,r,⟨_,A6 _ rfl,rfl,_,rfl⟩⟩,rfl,q _ I.fresh⟩
 refine Bt F.slot_str_partition rfl F.entry_str_partition (F.args_str_partition_2 _ _) (meets_str_partition z y t t2 hy (by lia)) ?_
 unfold PySem.Txt.partition at fin;cases ho:occurrences z y 0 z.length 1 with
 |nil=>
  rw[ho]at fin;exact fin _ _ (.cons ⟨_,rfl⟩ (.cons ⟨_,rfl⟩ (.cons ⟨_,rfl⟩ .nil)))
 |cons i r=>
  rw[ho]at fin;exact fin _ _ (.cons ⟨_,rfl⟩ (.cons ⟨_,rfl⟩ (.cons ⟨_,rfl⟩ .nil)))
def MS:∀{l:List Str} {us:List Value},Vals (l.map V.str) us->StrsAre us l:=fun r=>StrsAre.of_carried (L3.carried_strs r)
def MT (K:FG):V->List V->Hp->VK->Prop:=fun x xs H Q=> ∃z p l,x=.str z/\xs=[.ref p]/\SqL K H p (l.map V.str)/\(l.map (·.length)).sum+l.length*z.length<=16777216/\Q (.str (PySem.Txt.join z l)) H
def MU:MtR X "str.join" (MT X.K):=by
 intro pins s σ H x xs v us Q I rx rs h;obtain⟨z,p,l,rfl,rfl,hq,hl,q⟩:=h;obtain⟨t,rfl⟩:=rx;obtain⟨u,rfl,ru⟩:=qh rs;cases ru;obtain⟨its,rv,pl,_⟩:=I.list hq;exact join_list pl.isList (MS rv) hl fun t' k=>⟨.str (PySem.Txt.join z l),H,I.tok k,⟨t',rfl⟩,q⟩
def MV:ym X (.type "int") (fun xs H Q=> ∃x n,xs=[.str x]/\x.length<=640/\PySem.intText? x=some n/\Q (.int n) H):=by
 intro pins s σ H xs us Q I r h;obtain⟨x,n,rfl,hl,hn,q⟩:=h;obtain⟨u,rfl,t,rfl⟩:=qh r;exact PySem.W.KIN.call_text hn hl ⟨.int n,H,I.tok _,⟨_,rfl⟩,q⟩
def MW:ym X (.type "str") (fun xs H Q=> ∃x,xs=[.str x]/\Q (.str x) H):=by
 intro pins s σ H xs us Q I r h;obtain⟨x,rfl,q⟩:=h;obtain⟨u,rfl,t,rfl⟩:=qh r;exact PySem.P.str_of_str ⟨.str x,H,I,⟨_,rfl⟩,q⟩
def tFmt (ta:TE):TE:=fun σ H Q=>ta σ H fun x H1=>(∃i:Int,x=.int i/\i.natAbs.log2<1920/\Q (.str (toString i)) H1)\/∃y,x=.str y/\y.length<=100000/\Q (.str y) H1
def MX (ha:PE X a ta):PE X (.FormattedValue a (-1) none pos) (tFmt ta):=by
 intro pins s σ H Q I h
 refine wpAny_FormattedValue_plain (A5 (ha pins s σ H _ I h) (fun v s1 ⟨x,H1,I1,r1,q⟩=>?_) fun _ _ e=>e)
 rcases q with ⟨i,rfl,hi,q⟩|⟨y,rfl,hy,q⟩
 .obtain⟨t,rfl⟩:=r1
  exact wpAny_formatField_int hi ⟨.str _,H1,I1.tok _,⟨_,rfl⟩,q⟩
 .obtain⟨t,rfl⟩:=r1
  exact wpAny_formatField_str ⟨.str y,H1,I1,⟨_,rfl⟩,q⟩ ⟨.str y,H1,I1.tok _,⟨_,rfl⟩,q⟩ (A1 hy (by decide))
def tF3 (ta tb tc:TE):TE:=fun σ H Q=>ta σ H fun x H1=> ∃i,x=.str i/\i.length<=10000/\tb σ H1 fun y H2=> ∃j,y=.str j/\j.length<=10000/\tc σ H2 fun z H3=> ∃k,z=.str k/\k.length<=10000/\Q (.str (i++j++k)) H3
def MY (ha:PE X a ta) (hb:PE X b tb) (hc:PE X c tc):PE X (.JoinedStr [a,b,c] pos) (tF3 ta tb tc):=by
 intro pins s σ H Q I h;have sz:40000<=sizeLine:=by decide
 refine wpAny_JoinedStr ?_
 refine A5 (ha pins s σ H _ I h) (fun v s1 ⟨x,H1,I1,r1,i,ei,li,q1⟩=>?_) fun _ _ e=>e
 subst ei;obtain⟨t1,rfl⟩:=r1;have e0:Str.empty++i=i:=Str.empty_append i
 refine⟨i,t1,rfl,by rw[e0];lia,?_⟩
 rw[e0]
 refine A5 (hb pins s1 σ H1 _ I1 q1) (fun v s2 ⟨x,H2,I2,r2,j,ej,lj,q2⟩=>?_) fun _ _ e=>e
 subst ej;obtain⟨t2,rfl⟩:=r2
 refine⟨j,t2,rfl,by rw[Cj];lia,?_⟩
 refine A5 (hc pins s2 σ H2 _ I2 q2) (fun v s3 ⟨x,H3,I3,r3,k,ek,lk,q3⟩=>?_) fun _ _ e=>e
 subst ek;obtain⟨t3,rfl⟩:=r3
 refine⟨k,t3,rfl,by rw[Cj,Cj];lia,?_⟩
 exact⟨by rw[Cj,Cj];lia,.str _,H3,I3.tok _,⟨_,rfl⟩,q3⟩
end
end L2
namespace L3
open PySem PySem.Spec PyProof.Rows L2
section
variable {X:Cx} {κ:Kx} {E:XK} {F F':Fr} {σ σ':L2.St} {H H1 H':Hp} {Q:VK} {p:Addr} {e a b c o:Expr} {es:List Expr} {pos apos np cpos:Pos} {i:Nat} {D:Ends}
theorem IF {β:AO} {O:Addr->Prop}:∀l:List Str,Reps κ β O H (l.map V3.str) (l.map V.str)
 | []=>.nil
 |x::r=>.cons (.str x) (IF r)
def BM (p:P3) (a:A3):E3:=fun s h=>(p s h).bind fun f h1=>match f with
 |.x (.str z)=>(a s h1).bind fun fs h2=>match fs with
  | [.x (.str y)]=>if z.length<=100000/\(y.length==0)=false then .ok (.m (.lst ((PySem.Txt.split z y).map .str))) h2 else .no
  |_=>.no
 |_=>.no
def Fp {dp:P3} {t:A3} (ho:PE X o (zh κ E dp)) (ha:PA X [e] (zK κ E t)) (hbase:attributeBase o "split" X.env (eval o X.env)=eval o X.env:=by rfl)
  (hfew:((backTo cpos (starEach [e] X.env)).all (fun x=> !x.1) && (backToKw cpos (keywordEach [] X.env)).all (fun x=>x.1.isSome)
   && decide (([e]:List Expr).length+([]:List Keyword).length+(if ([]:List Keyword).isEmpty then 0 else 1)<30))=true:=by rfl)
  (hline:(apos.endLine==cpos.line)=true:=by rfl) (hs:starEach [e] X.env=(false,eval e X.env)::starEach [] X.env:=by rfl) (hplain:(backTo cpos (starEach [] X.env)).any (·.1)=false:=by rfl):
  PE X (.Call (.Attribute o "split" apos) [e] [] cpos) (zg κ E (BM dp t)):=yh (DX C9 PySem.F.slot_str_split PySem.F.type_str_split MP ho ha hbase hfew hline hs hplain) fun σ H Q ⟨F,rel,o⟩=>
 (zG (K:=kP κ) zu rel o).mono fun v H1 ⟨β1,h1,f,e1,⟨r1,rf⟩,o1⟩=>by
  match f,rf,o1 with
  |.x (.str z),rf,o1=>
   cases (show Rep κ β1 F.O H1 (.str z) v from rf)
   refine⟨rfl,(zG (F:=F.to β1 h1) (K:=kA κ) zu r1 o1).mono fun vs H2 ⟨β2,h2,fs,e2,⟨r2,rfs⟩,o2⟩=>?_⟩
   match fs,rfs,o2 with
   | [.x (.str y)],rfs,o2=>
    obtain⟨w,rfl,rg⟩:=p1 rfs;cases (show Rep κ β2 F.O H2 (.str y) w from rg)
    by_cases hc:z.length<=100000/\(y.length==0)=false
    .simp only[Aa hc]at o2
     exact⟨z,y,rfl,rfl,hc.1,hc.2,fun l hl=>o2 β2 _ _ (yz hl) (Post.lst r2 hl (IF _))⟩
    .simp only[Ab hc]at o2;exact o2.elim
def Eo (p:P3) (a:A3):E3:=fun s h=>(p s h).bind fun f h1=>match f with
 |.x (.str z)=>(a s h1).bind fun fs h2=>match fs with
  | [.x (.str y)]=>if z.length<=100000/\(y.length==0)=false then .ok (.v (.tup [.str (PySem.Txt.partition z y).1,.str (PySem.Txt.partition z y).2.1,.str (PySem.Txt.partition z y).2.2])) h2 else .no
  |_=>.no
 |_=>.no
def MZ {dp:P3} {t:A3} (ho:PE X o (zh κ E dp)) (ha:PA X [e] (zK κ E t)) (hbase:attributeBase o "partition" X.env (eval o X.env)=eval o X.env:=by rfl)
  (hfew:((backTo cpos (starEach [e] X.env)).all (fun x=> !x.1) && (backToKw cpos (keywordEach [] X.env)).all (fun x=>x.1.isSome)
   && decide (([e]:List Expr).length+([]:List Keyword).length+(if ([]:List Keyword).isEmpty then 0 else 1)<30))=true:=by rfl)
  (hline:(apos.endLine==cpos.line)=true:=by rfl) (hs:starEach [e] X.env=(false,eval e X.env)::starEach [] X.env:=by rfl) (hplain:(backTo cpos (starEach [] X.env)).any (·.1)=false:=by rfl):
  PE X (.Call (.Attribute o "partition" apos) [e] [] cpos) (zg κ E (Eo dp t)):=yh (DX C9 PySem.F.slot_str_partition PySem.F.type_str_partition MR ho ha hbase hfew hline hs hplain) fun σ H Q ⟨F,rel,o⟩=>
 (zG (K:=kP κ) zu rel o).mono fun v H1 ⟨β1,h1,f,e1,⟨r1,rf⟩,o1⟩=>by
  match f,rf,o1 with
  |.x (.str z),rf,o1=>
   cases (show Rep κ β1 F.O H1 (.str z) v from rf)
   refine⟨rfl,(zG (F:=F.to β1 h1) (K:=kA κ) zu r1 o1).mono fun vs H2 ⟨β2,h2,fs,e2,⟨r2,rfs⟩,o2⟩=>?_⟩
   match fs,rfs,o2 with
   | [.x (.str y)],rfs,o2=>
    obtain⟨w,rfl,rg⟩:=p1 rfs;cases (show Rep κ β2 F.O H2 (.str y) w from rg)
    by_cases hc:z.length<=100000/\(y.length==0)=false
    .simp only[Aa hc]at o2
     exact⟨z,y,rfl,rfl,hc.1,hc.2,fun l hl=>o2 β2 _ _ (yz hl) (Post.tup r2 hl (.cons (.str _) (.cons (.str _) (.cons (.str _) .nil))))⟩
    .simp only[Ab hc]at o2;exact o2.elim
def AV (p:P3) (a:A3):E3:=fun s h=>(p s h).bind fun f h1=>match f with
 |.x (.str z)=>(a s h1).bind fun fs h2=>match fs with
  | [g]=>match rdl s h2 g with
   |some xs=>match zP str3 xs with
    |some l=>if (l.map (·.length)).sum+l.length*z.length<=16777216 then .ok (.v (.str (PySem.Txt.join z l))) h2 else .no
    |none=>.no
   |none=>.no
  |_=>.no
 |_=>.no
def Ep {dp:P3} {t:A3} (hK:X.K=κ.K) (ho:PE X o (zh κ E dp)) (ha:PA X [e] (zK κ E t)) (hbase:attributeBase o "join" X.env (eval o X.env)=eval o X.env:=by rfl)
  (hfew:((backTo cpos (starEach [e] X.env)).all (fun x=> !x.1) && (backToKw cpos (keywordEach [] X.env)).all (fun x=>x.1.isSome)
   && decide (([e]:List Expr).length+([]:List Keyword).length+(if ([]:List Keyword).isEmpty then 0 else 1)<30))=true:=by rfl)
  (hline:(apos.endLine==cpos.line)=true:=by rfl) (hs:starEach [e] X.env=(false,eval e X.env)::starEach [] X.env:=by rfl) (hplain:(backTo cpos (starEach [] X.env)).any (·.1)=false:=by rfl):
  PE X (.Call (.Attribute o "join" apos) [e] [] cpos) (zg κ E (AV dp t)):=yh (DX C9 PySem.F.slot_str_join PySem.F.type_str_join MU ho ha hbase hfew hline hs hplain) fun σ H Q ⟨F,rel,o⟩=>
 (zG (K:=kP κ) zu rel o).mono fun v H1 ⟨β1,h1,f,e1,⟨r1,rf⟩,o1⟩=>by
  match f,rf,o1 with
  |.x (.str z),rf,o1=>
   cases (show Rep κ β1 F.O H1 (.str z) v from rf)
   refine⟨rfl,(zG (F:=F.to β1 h1) (K:=kA κ) zu r1 o1).mono fun vs H2 ⟨β2,h2,fs,e2,⟨r2,rfs⟩,o2⟩=>?_⟩
   match fs,rfs,o2 with
   | [g],rfs,o2=>
    obtain⟨w,rfl,rg⟩:=p1 rfs;cases q1:rdl F.s h2 g with
    |none=>simp only[q1]at o2;exact o2.elim
    |some xs=>
     simp only[q1]at o2;cases q2:zP str3 xs with
     |none=>simp only[q2]at o2;exact o2.elim
     |some l=>
      simp only[q2]at o2
      by_cases hc:(l.map (·.length)).sum+l.length*z.length<=16777216
      .rw[Aa hc]at o2
       obtain⟨a,ys,rfl,sq,rs⟩:=BE (F:=F.to β2 h2) r2 rg q1;exact⟨z,a,l,rfl,rfl,by rw[hK,<-IB rs q2];exact sq,hc,o2 β2 _ H2 Ext.refl ⟨r2,.str _⟩⟩
      .rw[Ab hc]at o2;exact o2.elim
def eFmt (p:P3):E3:=fun s h=>(p s h).bind fun f h1=>match f with
 |.x (.int i)=>if i.natAbs.log2<1920 then .ok (.v (.str (Str.ofString (toString i)))) h1 else .no
 |.x (.str y)=>if y.length<=100000 then .ok (.v (.str y)) h1 else .no
 |_=>.no
def IG {d:P3} (ha:PE X a (zh κ E d)):PE X (.FormattedValue a (-1) none pos) (zg κ E (eFmt d)):=yh (MX ha) fun σ H Q ⟨F,rel,o⟩=>
 (zG (K:=kP κ) zu rel o).mono fun v H1 ⟨β1,h1,f,e1,⟨r1,rf⟩,o1⟩=>by
  match f,rf,o1 with
  |.x (.int i),rf,o1=>
   cases (show Rep κ β1 F.O H1 (.int i) v from rf)
   by_cases hc:i.natAbs.log2<1920
   .simp only[Aa hc]at o1;exact .inl ⟨i,rfl,hc,o1 β1 _ H1 Ext.refl ⟨r1,.str _⟩⟩
   .simp only[Ab hc]at o1;exact o1.elim
  |.x (.str y),rf,o1=>
   cases (show Rep κ β1 F.O H1 (.str y) v from rf)
   by_cases hc:y.length<=100000
   .simp only[Aa hc]at o1;exact .inr ⟨y,rfl,hc,o1 β1 _ H1 Ext.refl ⟨r1,.str _⟩⟩
   .simp only[Ab hc]at o1;exact o1.elim
def eF3 (a b c:P3):E3:=fun s h=>(a s h).bind fun x h1=>match x with
 |.x (.str i)=>if i.length<=10000 then (b s h1).bind fun y h2=>match y with
  |.x (.str j)=>if j.length<=10000 then (c s h2).bind fun z h3=>match z with
   |.x (.str k)=>if k.length<=10000 then .ok (.v (.str (i++j++k))) h3 else .no
   |_=>.no
   else .no
  |_=>.no
  else .no
 |_=>.no
def r_f3 {da db dc:P3} (ha:PE X a (zh κ E da)) (hb:PE X b (zh κ E db)) (hc:PE X c (zh κ E dc)):PE X (.JoinedStr [a,b,c] pos) (zg κ E (eF3 da db dc)):=yh (MY ha hb hc) fun σ H Q ⟨F,rel,o⟩=>
 (zG (K:=kP κ) zu rel o).mono fun v H1 ⟨β1,h1,f,e1,⟨r1,rf⟩,o1⟩=>by
  match f,rf,o1 with
  |.x (.str i),rf,o1=>
   cases (show Rep κ β1 F.O H1 (.str i) v from rf)
   by_cases hi:i.length<=10000
   .simp only[Aa hi]at o1
    refine⟨i,rfl,hi,(zG (F:=F.to β1 h1) (K:=kP κ) zu r1 o1).mono fun v2 H2 ⟨β2,h2,f2,e2,⟨r2,rf2⟩,o2⟩=>?_⟩
    match f2,rf2,o2 with
    |.x (.str j),rf2,o2=>
     cases (show Rep κ β2 F.O H2 (.str j) v2 from rf2)
     by_cases hj:j.length<=10000
     .simp only[Aa hj]at o2
      refine⟨j,rfl,hj,(zG (F:=F.to β2 h2) (K:=kP κ) zu r2 o2).mono fun v3 H3 ⟨β3,h3,f3,e3,⟨r3,rf3⟩,o3⟩=>?_⟩
      match f3,rf3,o3 with
      |.x (.str k),rf3,o3=>
       cases (show Rep κ β3 F.O H3 (.str k) v3 from rf3)
       by_cases hk:k.length<=10000
       .simp only[Aa hk]at o3
        exact⟨k,rfl,hk,o3 β3 _ H3 Ext.refl ⟨r3,.str _⟩⟩
       .simp only[Ab hk]at o3;exact o3.elim
     .simp only[Ab hj]at o2;exact o2.elim
   .simp only[Ab hi]at o1;exact o1.elim
def D4:FB:=fun _ _ fs=>match fs with
 | [.x (.str x)]=>match PySem.intText? x with
  |some n=>if x.length<=640 then some (.v (.int n)) else none
  |none=>none
 |_=>none
def Na:qa κ (fun xs H Q=> ∃x n,xs=[.str x]/\x.length<=640/\PySem.intText? x=some n/\Q (.int n) H) D4:=fun F σ H fs z vs Q rel r e k=>by
 unfold D4 at e
 split at e
 .rename_i x
  cases q:PySem.intText? x with
  |none=>rw[q]at e;cases e
  |some n=>
   rw[q]at e;obtain⟨hl,rfl⟩:=yV e;obtain⟨v,rfl,rv⟩:=p1 r;cases (show Rep κ F.β F.O H (.str x) v from rv)
   exact⟨x,n,rfl,hl,q,k _ _ Ext.refl ⟨rel,.int _⟩⟩
 .cases e
def AW:FB:=fun _ _ fs=>match fs with
 | [.x (.int i)]=>if i.natAbs.log2<1920 then some (.v (.str (Str.ofString (toString i)))) else none
 | [.x (.str x)]=>some (.v (.str x))
 |_=>none
def Fq:ym X (.type "str") (fun xs H Q=>(∃i:Int,xs=[.int i]/\i.natAbs.log2<1920/\Q (.str (toString i)) H)\/∃x,xs=[.str x]/\Q (.str x) H):=fun pins s σ H xs us Q I r h=>by
 rcases h with h|h
 .exact KI pins s σ H xs us Q I r h
 .exact MW pins s σ H xs us Q I r h
def Fs:qa κ (fun xs H Q=>(∃i:Int,xs=[.int i]/\i.natAbs.log2<1920/\Q (.str (toString i)) H)\/∃x,xs=[.str x]/\Q (.str x) H) AW:=fun F σ H fs z vs Q rel r e k=>by
 unfold AW at e
 split at e
 .rename_i i
  obtain⟨hl,rfl⟩:=yV e;obtain⟨v,rfl,rv⟩:=p1 r;cases (show Rep κ F.β F.O H (.int i) v from rv)
  exact .inl ⟨i,rfl,hl,k _ _ Ext.refl ⟨rel,.str _⟩⟩
 .rename_i x
  cases e;obtain⟨v,rfl,rv⟩:=p1 r;cases (show Rep κ F.β F.O H (.str x) v from rv)
  exact .inr ⟨x,rfl,k _ _ Ext.refl ⟨rel,.str _⟩⟩
 .cases e
def D5:F2:=fun _ _ x y=>match x,y with
 |.x (.tup (a::r)),.x (.tup (b::q))=>if (a::r).length+(b::q).length<=sizeLine then some (.v (.tup ((a::r)++(b::q)))) else none
 |_,_=>none
def Nb (hK:X.K=κ.K):OpR X (binaryOp .Add) (EO κ.K):=by rw[<-hK];exact Ln
def Nc:OpSim κ (EO κ.K) D5:=fun F σ H x y z v w Q rel rx ry e k=>by
 unfold D5 at e
 split at e
 .rename_i a r b q
  obtain⟨h,rfl⟩:=yV e;cases (show Rep κ F.β F.O H (.tup (a::r)) v from rx) with
  |tup h1 h2 h3 h4=>
   cases (show Rep κ F.β F.O H (.tup (b::q)) w from ry) with
   |tup g1 g2 g3 g4=>
    refine⟨_,_,_,_,rfl,rfl,.of h1,.of g1,?_,?_,fun z=>?_,fun _ p hp=>k _ _ (yz hp) (Post.tup rel hp (h4.append g4))⟩
    .intro z;rw[z]at h4;cases h4
    .rw[<-h4.length,<-g4.length];exact h
    .rw[z]at g4;cases g4
 .cases e
end
end L3
namespace L2
open PySem PySem.Spec PyProof.Rows
section
variable {X:Cx} {tg:Expr}
def Nd (K:FG) (tl:TE):TI:=fun σ H R=>tl σ H fun x H1=>(∃a,x=.ref a/\(∃xs,SqL K H1 a xs)/\R (Itl K a) H1)\/∃a,x=.ref a/\(∃xs,SqT K H1 a xs)/\R (Itt K a) H1
def Nf {l:Expr} {tl:TE} (hl:PE X l tl):PI X tg l (Nd X.K tl):=by
 intro pins s σ H R I h
 refine zr (hl pins s σ H _ I h) fun v s1 ⟨x,H1,I1,r1,q1⟩=>?_
 rcases q1 with ⟨a,e,⟨xs,hq⟩,q⟩|⟨a,e,⟨xs,hq⟩,q⟩
 .subst e
  cases r1;obtain⟨its,rv,p,hz⟩:=I1.list hq
  refine Cp p.isList ?_
  refine⟨s1.heap.objs.size,[s1.heap.objs.size],_,_,H1,rfl,I1.kept (t':=s1.toks) fun b o e=>Aw _ e,Hc a _,⟨_,A6 _ rfl,rfl,rfl⟩,fun b hb=>?_,q⟩
  have e:b=s1.heap.objs.size:=by simpa using hb
  subst e;exact I1.fpOk (Ac _) (I1.hok.fresh (Ac _))
 .subst e
  cases r1;obtain⟨its,rv,p,hz⟩:=I1.tuple hq
  refine wpAny_pyIter_tuple (show s1.heap.IsTuple a its.toArray from p) ?_
  refine⟨s1.heap.objs.size,[s1.heap.objs.size],_,_,H1,rfl,I1.kept (t':=s1.toks) fun b o e=>Aw _ e,Ks a _,⟨_,A6 _ rfl,rfl,rfl⟩,fun b hb=>?_,q⟩
  have e:b=s1.heap.objs.size:=by simpa using hb
  subst e;exact I1.fpOk (Ac _) (I1.hok.fresh (Ac _))
end
end L2
namespace L3
open PySem PySem.Spec PyProof.Rows L2
section
variable {X:Cx} {κ:Kx} {E:XK} {F F':Fr} {σ σ':L2.St} {H H1 H':Hp} {Q:VK}
def iLT (p:P3):I3:=fun s h=>(p s h).bind fun f h1=>match f with
 |.x (.tup xs)=>.ok ⟨[.tup xs],xs,fun _=>True⟩ h1
 |.x x=>match yM h1 x with
  |some (xs,ok)=>.ok ⟨[x],xs,ok⟩ h1
  |none=>.no
 |_=>.no
def Ft {p:P3} {s:S3} {h h1:H3} {xs:List V3} (e:p s h=.ok (.x (.tup xs)) h1):iLT p s h=.ok ⟨[.tup xs],xs,fun _=>True⟩ h1:=by
 unfold iLT;simp only[e,Res.bind]
def Ng {p:P3} {s:S3} {h h1:H3} {xs:List V3} (e:p s h=.ok (.x (.lst xs)) h1):iLT p s h=.ok ⟨[.lst xs],xs,fun _=>True⟩ h1:=by
 unfold iLT;simp only[e,Res.bind,yM]
def Fu {tg l:Expr} {d:P3} (hK:X.K=κ.K) (hl:PE X l (zh κ E d)):PI X tg l (ya κ E (iLT d)):=PIw (Nf hl) fun σ H R ⟨F,rel,o⟩=>
 (zG (K:=kP κ) km_I rel o).mono fun v H1 ⟨β1,h1,f,e1,⟨r1,rf⟩,o1⟩=>by
  rw[hK]
  match f,rf,o1 with
  |.s _,rf,o1=>exact o1.elim
  |.x x,rf,o1=>
   by_cases ht:∃xs,x=.tup xs
   .obtain⟨xs,rfl⟩:=ht
    have rf:Rep κ β1 F.O H1 (.tup xs) v:=rf;have rf0:=rf;cases rf with
    |tup g1 g2 g3 g4=>
     refine .inr ⟨_,rfl,⟨_,.of g1⟩,o1 β1 _ H1 Ext.refl ⟨r1,[_],.cons rf0 .nil,fun F' σ' H' rel' r' hk i=>?_⟩⟩
     cases r' with
     |cons r'' _=>
      cases r'' with
      |tup k1 k2 k3 k4=>
       refine⟨fun hi=>⟨?_,fun y H' ⟨e,yl⟩=>?_⟩,fun hi=>⟨_,.of k1,by rw[<-k4.length];exact hi⟩⟩
       .obtain⟨y,hy,_⟩:=k4.get (i:=i) (z8 hi)
        exact⟨_,y,.of k1,hy⟩
       .subst e
        obtain⟨x3,h1,h2⟩:=k4.get' (yl _ (.of k1));exact⟨x3,h1,Ext.refl,rel',h2⟩
   .cases q:yM h1 x with
    |none=>exact (show False by cases x<;>first|exact ht ⟨_,rfl⟩|(simp only[q]at o1;exact o1)).elim
    |some w=>
     obtain⟨xs,ok⟩:=w;have rf:Rep κ β1 F.O H1 x v:=rf;obtain⟨a,ys,ev,sq,rs⟩:=Ei (F:=F.to β1 h1) q r1 rf (Dw q).1;subst ev;have o2:Out κ E (kI κ) (F.to β1 h1) σ H1 R (.ok ⟨[x],xs,ok⟩ h1):=by cases x<;>first|exact absurd ⟨_,rfl⟩ ht|(simp only[q]at o1;exact o1)
     refine .inl ⟨a,rfl,⟨ys,sq⟩,o2 β1 _ H1 Ext.refl ⟨r1,[.ref a],.cons rf .nil,fun F' σ' H' rel' r' hk i=>?_⟩⟩
     cases r' with
     |cons r'' _=>
      obtain⟨a',ys',ev',sq',rs'⟩:=Ei q rel' r'' hk;cases ev'
      refine⟨fun hi=>⟨?_,fun y H' ⟨e,yl⟩=>?_⟩,fun hi=>⟨ys',sq',by rw[<-rs'.length];exact hi⟩⟩
      .obtain⟨y,hy,_⟩:=rs'.get (i:=i) (z8 hi)
       exact⟨ys',y,sq',hy⟩
      .subst e
       obtain⟨x3,h1,h2⟩:=rs'.get' (yl ys' sq');exact⟨x3,h1,Ext.refl,rel',h2⟩
end
end L3
namespace My
open PySem L2 L3
def Fv:D3:=(zx (iR1 (aCons (pV 3) aNil)) (gN 8) (sSeq (sSet 9 (eOp zm (pE (eOp zE (pV 0) (pE (eOp zm (kJ 64) (pE (eOp zZ (kJ 29) (pV 8))))))) (pE (eOp zZ (pV 6) (pE (eB bInt (aCons (pE (eOp yd (pV 8) (pV 4))) aNil))))))) (sIf (tE (eOp yd (pV 8) (kJ 0))) (sSet 7 (eOp zm (pV 7) (pE (eOp yk (pV 2) (pE (eOp zA (pV 9) (kJ 26))))))) (sSet 7 (eOp zm (pV 7) (pE (eOp yk (pE (eOp zm (pV 2) (pE (eC (.str ("0123456789" :Str)))))) (pE (eOp zA (pV 9) (kJ 36))))))))))
def Fw:D3:=(zx (iR1 (aCons (pV 1) aNil)) (gN 6) (sSeq (sSet 7 (eC (.str ("" :Str)))) (sSeq (sFz 3) (sSeq Fv (sSeq (sFz 7) (qc yG (pV 5) (aCons (pV 7) aNil)))))))
def Fx:D3:=(sSeq (sSet 2 (eC (.str ("abcdefghijklmnopqrstuvwxyz" :Str)))) (sSeq (sSet 3 (eOp zm (kJ 1) (pE (eOp zA (pV 0) (kJ 8))))) (sSeq (sSet 4 (eOp zA (pE (eOp zE (pV 0) (kJ 8))) (pV 3))) (sSeq (sSet 5 (eLst aNil)) (sSeq Fw (sRetS 5))))))
def D6:F3:=fun3 2 10 Fx
def Nh:zq D6 2:=zv
def Fy:D3:=(zx (iL (pV 0)) (gN 3) (sSeq (sSet 4 (eOp zm (pV 2) (pE (eOp zA (pV 3) (pE (eOp oPow (kJ 10) (kJ 9))))))) (sSeq (sIf (tE (eOp yd (pE (eOp zA (pE (eOp zE (pV 3) (kJ 5))) (kJ 3))) (kJ 0))) (sSet 4 (eOp zm (pV 2) (pE (eOp zA (pE (eOp zE (pV 3) (kJ 15))) (kJ 3))))) sSkip) (sSeq (sSet 5 (eOp zm (pV 4) (pE (eOp zA (pE (eOp zE (pV 3) (kJ 7))) (pE (eOp yk (pE (eLst (aCons (kJ 4) (aCons (pE (eOp oPow (kJ 10) (kJ 9))) aNil)))) (pE (eOp zA (pE (eOp zE (pV 3) (kJ 28))) (kJ 2))))))))) (sSeq (sFz 5) (sSeq (sFz 4) (sSeq (qc yG (pV 1) (aCons (pE (eTup (aCons (pV 4) (aCons (pV 5) aNil)))) aNil)) (sSet 2 (eOp zm (pV 5) (kJ 2))))))))))
def Fz:D3:=(sSeq (sSet 1 (eLst aNil)) (sSeq (sSet 2 (eC (.int 0))) (sSeq Fy (sRetS 1))))
def D7:F3:=fun3 1 6 Fz
def Ni:zq D7 1:=zv
def Er:D3:=(sSeq (sSet 1 (eOp zA (pE (eOp zE (pV 0) (kJ 3))) (pE (eOp oPow (kJ 10) (kJ 11))))) (sSeq (sIf (tE (eOp yd (pE (eOp zA (pV 0) (kJ 3))) (kJ 0))) (sSet 1 (eOp zA (pE (eOp zE (pV 0) (kJ 3))) (kJ 12))) sSkip) (sRetS 1)))
def qg:F3:=fun3 1 2 Er
def BV:zq qg 1:=zv
def FA:D3:=(zx (iL (pV 0)) (gN 3) (sSeq (sSet 4 (eTup (aCons (pE (eCall qg (aCons (pV 3) aNil))) (aCons (pE (eCall qg (aCons (pE (eOp zm (pE (eOp zE (pV 3) (kJ 11))) (pE (eOp zZ (kJ 5) (pV 3))))) aNil))) (aCons (pE (eOp yk (pV 1) (pE (eOp zA (pV 3) (pE (eB bLen (aCons (pV 1) aNil))))))) aNil))))) (sSeq (qc yG (pV 2) (aCons (pV 4) aNil)) (sIf (tE (eOp yd (pE (eOp zA (pE (eOp zE (pV 3) (kJ 13))) (kJ 5))) (kJ 0))) (qc yG (pV 2) (aCons (pV 4) aNil)) sSkip))))
def FC:D3:=(sSeq (sSet 2 (eLst aNil)) (sSeq FA (sRetS 2)))
def D8:F3:=fun3 2 5 FC
def Nj:zq D8 2:=zv
def FD:D3:=(zx (iL (pV 0)) (gN 3) (sSeq (sSet 4 (eCall qg (aCons (pE (eOp zm (pE (eOp zE (pV 3) (kJ 17))) (pE (eOp zZ (kJ 3) (pV 3))))) aNil))) (sSeq (sIf (tE (eOp yd (pE (eOp zA (pE (eOp zE (pV 3) (kJ 19))) (kJ 4))) (kJ 0))) (sSet 4 (eOp oSub (kJ 0) (kJ 1))) sSkip) (sSeq (sFz 4) (sSeq (sSet 5 (eTup (aCons (pE (eCall qg (aCons (pV 3) aNil))) (aCons (pV 4) (aCons (pE (eCall qg (aCons (pE (eOp zm (pE (eOp zE (pV 3) (kJ 23))) (pV 3))) aNil))) (aCons (pE (eCall qg (aCons (pE (eOp zm (pE (eOp zE (pV 3) (kJ 29))) (pE (eOp zZ (kJ 7) (pV 3))))) aNil))) aNil)))))) (qc yG (pV 2) (aCons (pE (eOp D5 (pE (eTup (aCons (pE (eOp yk (pV 1) (pE (eOp zA (pE (eOp zE (pV 3) (kJ 2))) (pE (eB bLen (aCons (pV 1) aNil))))))) aNil))) (pV 5))) aNil)))))))
def FE:D3:=(sSeq (sSet 2 (eLst aNil)) (sSeq FD (sRetS 2)))
def D9:F3:=fun3 2 6 FE
def Nk:zq D9 2:=zv
def DA:D3:=(sSeq (sIf (tE (eOp oLt (pV 1) (pE (eB bLen (aCons (pV 0) aNil))))) (sRet (eOp yk (pV 0) (pV 1))) sSkip) (sSeq (sSet 2 (eOp zm (pE (eOp zZ (kJ 7919) (pV 1))) (kJ 101))) (sSeq (sIf (tE (eOp oGt (pE (eB bLen (aCons (pV 0) aNil))) (kJ 0))) (sSet 2 (eOp zm (pV 2) (pE (eOp zZ (pE (eOp zA (pE (eOp yk (pV 0) (pE (eOp zA (pE (eOp zZ (kJ 7) (pV 1))) (pE (eB bLen (aCons (pV 0) aNil))))))) (kJ 1000003))) (pE (eOp zm (pV 1) (kJ 3))))))) sSkip) (sRet (eOp zA (pE (eOp zZ (pV 2) (pV 2))) (kJ 1000003))))))
def y0:F3:=fun3 2 3 DA
def FF:zq y0 2:=zv
def Es:E3:=(ye 1 [] (iS (pV 0)) (gN 0) tTru (eOp (oInS false) (pV 0) (pE (eC (.str ("0123456789" :Str))))))
def Et:D3:=(sSeq (sIf (tOr3 (tNot3 (tE (eChain oLe oLe (kJ 1) (pE (eB bLen (aCons (pV 0) aNil))) (kJ 11)))) (tNot3 (tE (eB (bAll fun bs=>bs.all id) (aCons (pE Es) aNil))))) (sRet (eC (.bl false))) sSkip) (sRet (eOr (eOp yf (pE (eOp yk (pV 0) (kJ 0))) (pE (eC (.str ("0" :Str))))) (eOp yd (pV 0) (pE (eC (.str ("0" :Str))))))))
def CT:F3:=fun3 1 1 Et
def Nl:zq CT 1:=zv
def FH:D3:=(sSeq (sIf (tNot3 (tE (eCall CT (aCons (pV 0) aNil)))) sNever sSkip) (sRet (eB D4 (aCons (pV 0) aNil))))
def yY:F3:=fun3 1 1 FH
def AX:zq yY 1:=zv
def DB:E3:=(ye 1 [] (iLT (pV 4)) (gN 0) tTru (eB AW (aCons (pV 0) aNil)))
def IH:D3:=(zx (iL (pV 0)) (gN 4) (sSeq (sSet 5 DB) (sSeq (sFz 5) (qc yG (pV 3) (aCons (pE (AV (pV 1) (aCons (pV 5) aNil))) aNil)))))
def FI:D3:=(sSeq (sIf (tE (eOp yd (pV 0) (pE (eLst aNil)))) (sRet (eC (.str ("-" :Str)))) sSkip) (sSeq (sSet 3 (eLst aNil)) (sSeq IH (sSeq (sFz 3) (sRet (AV (pV 2) (aCons (pV 3) aNil)))))))
def BW:F3:=fun3 3 6 FI
def FJ:zq BW 3:=zv
def FK:D3:=(sSeq (sAsg (gT (gsCons (gN 1) (gsCons (gN 2) (gsCons (gN 3) gsNil)))) (Eo (pV 0) (aCons (pE (eC (.str ("-" :Str)))) aNil))) (sRet (eTup (aCons (pE (eCall yY (aCons (pV 1) aNil))) (aCons (pE (eCall yY (aCons (pV 3) aNil))) aNil)))))
def DC:F3:=fun3 1 4 FK
def Nm:zq DC 1:=zv
def Eu:E3:=(ye 1 [] (iL (pE (BM (pV 0) (aCons (pE (eC (.str (" " :Str)))) aNil)))) (gN 0) tTru (eCall DC (aCons (pV 0) aNil)))
def FL:D3:=(zx (iL (pV 1)) (gT (gsCons (gN 3) (gsCons (gN 4) gsNil))) (sSeq (sIf (tOr3 (tE (eOp oGt (pV 3) (pV 4))) (tE (eOp oLt (pV 3) (pE (eOp zm (pV 2) (kJ 2)))))) sNever sSkip) (sSet 2 (eV 4))))
def FN:D3:=(sSeq (sIf (tE (eOp yd (pV 0) (pE (eC (.str ("-" :Str)))))) (sRet (yX (eLst aNil))) sSkip) (sSeq (sSet 1 (yX Eu)) (sSeq (sSet 2 (eNeg (kJ 2))) (sSeq FL (sRetS 1)))))
def BX:F3:=fun3 1 5 FN
def II:zq BX 1:=zv
def Ew:E3:=(ye 1 [] (iLT (pV 2)) (gN 0) (tE (eB bIsT (aCons (pV 0) (aCons (pE (eC (.ty "bool"))) aNil)))) (eV 0))
def FO:D3:=(zx (iL (pV 0)) (gN 2) (sIf (tOr3 (tNot3 (tE (eB bIsT (aCons (pV 2) (aCons (pE (eC (.ty "tuple"))) aNil))))) (tE (eOp oGt (pE (eB bLen (aCons (pE Ew) aNil))) (kJ 0)))) (sRet (eC (.bl false))) sSkip))
def FP:D3:=(sSeq (sIf (tOr3 (tNot3 (tE (eB bIsT (aCons (pV 0) (aCons (pE (eC (.ty "list"))) aNil))))) (tE (eOp yf (pV 0) (pV 1)))) (sRet (eC (.bl false))) sSkip) (sSeq FO (sRet (eC (.bl true)))))
def AF:F3:=fun3 2 3 FP
def CU:zq AF 2:=zv
def BN:E3:=(ye 1 [] (iLT (pV 0)) (gN 0) tTru (eB AW (aCons (pV 0) aNil)))
def DD:D3:=(sRet (eIf (tP (pV 0)) (AV (pE (eC (.str (" " :Str)))) (aCons (pE BN) aNil)) (eC (.str ("-" :Str)))))
def AY:F3:=fun3 1 1 DD
def IJ:zq AY 1:=zv
def Ex:E3:=(ye 2 [] (iL (pV 0)) (gT (gsCons (gN 0) (gsCons (gN 1) gsNil))) tTru (eF3 (pE (eFmt (pV 0))) (pE (eC (.str ("-" :Str)))) (pE (eFmt (pV 1)))))
def FQ:D3:=(sRet (eCall AY (aCons (pE Ex) aNil)))
def DE:F3:=fun3 1 1 FQ
def Nn:zq DE 1:=zv
def FR:D3:=(sSeq (sSet 1 (eB bList (aCons (pV 0) aNil))) (sSeq (sSet 2 (eCall BW (aCons (pV 0) (aCons (pE (eC (.str ("-" :Str)))) (aCons (pE (eC (.str (" " :Str)))) aNil))))) (sSeq (sFz 1) (sSeq (sIf (tOr3 (tE (eOp yf (pE (eCall DE (aCons (pV 1) aNil))) (pV 2))) (tE (eOp yf (pV 1) (pV 0)))) (sRet (eC (.bl false))) sSkip) (sSeq (sFz 2) (sSeq (sSet 3 (eCall BX (aCons (pV 2) aNil))) (sSeq (sFz 3) (sSeq (sIf (tNot3 (tE (eCall AF (aCons (pV 3) (aCons (pV 0) aNil))))) (sRet (eC (.bl false))) sSkip) (sSeq (qc yG (pV 3) (aCons (pE (eTup (aCons (kJ 0) (aCons (kJ 0) aNil)))) aNil)) (sSeq (sFz 2) (sRet (eCall AF (aCons (pE (eCall BX (aCons (pV 2) aNil))) (aCons (pV 0) aNil))))))))))))))
def BY:F3:=fun3 1 4 FR
def FS:zq BY 1:=zv
def Ey:E3:=(ye 1 [] (iS (pV 0)) (gN 0) tTru (eOp (oInS false) (pV 0) (pE (eC (.str ("abcdefghijklmnopqrstuvwxyz0123456789" :Str))))))
def FT:D3:=(sSeq (sIf (tOr3 (tNot3 (tE (eB bIsT (aCons (pV 0) (aCons (pE (eC (.ty "str"))) aNil))))) (tNot3 (tE (eChain oLe oLe (kJ 1) (pE (eB bLen (aCons (pV 0) aNil))) (kJ 8))))) (sRet (eC (.bl false))) sSkip) (sRet (eAnd (eOp (oInS false) (pE (eOp yk (pV 0) (kJ 0))) (pE (eC (.str ("abcdefghijklmnopqrstuvwxyz" :Str))))) (eB (bAll fun bs=>bs.all id) (aCons (pE Ey) aNil)))))
def DF:F3:=fun3 1 1 FT
def Np:zq DF 1:=zv
def FU:D3:=(sSeq (sIf (tNot3 (tE (eCall DF (aCons (pV 0) aNil)))) sNever sSkip) (sRetS 0))
def CV:F3:=fun3 1 1 FU
def IK:zq CV 1:=zv
def Ez:E3:=(ye 1 [] (iL (pE (BM (pV 0) (aCons (pE (eC (.str ("; " :Str)))) aNil)))) (gN 0) tTru (BM (pV 0) (aCons (pE (eC (.str (" " :Str)))) aNil)))
def E1:E3:=(ye 1 [1] (iL (pV 2)) (gN 0) tTru (eOp yf (pE (eB bLen (aCons (pV 0) aNil))) (pV 1)))
def E2:D3:=(sSeq (sIf (tE (eOp yd (pV 0) (pE (eC (.str ("-" :Str)))))) (sRet (eLst aNil)) sSkip) (sSeq (sSet 2 Ez) (sSeq (sFz 2) (sSeq (sIf (tE (eB (bAll fun bs=>bs.any id) (aCons (pE E1) aNil))) sNever sSkip) (sRetS 2)))))
def qk:F3:=fun3 2 3 E2
def IL:zq qk 2:=zv
def E4:E3:=(ye 3 [] (iL (pE (eCall qk (aCons (pV 0) (aCons (kJ 3) aNil))))) (gL (gsCons (gN 0) (gsCons (gN 1) (gsCons (gN 2) gsNil)))) tTru (eTup (aCons (pE (eCall yY (aCons (pV 0) aNil))) (aCons (pE (eCall yY (aCons (pV 1) aNil))) (aCons (pE (eCall CV (aCons (pV 2) aNil))) aNil)))))
def FV:D3:=(sRet E4)
def CW:F3:=fun3 1 1 FV
def IM:zq CW 1:=zv
def DG:E3:=(ye 1 [] (iL (pV 0)) (gN 0) tTru (eCall AY (aCons (pV 0) aNil)))
def E5:D3:=(sRet (eIf (tP (pV 0)) (AV (pE (eC (.str ("; " :Str)))) (aCons (pE DG) aNil)) (eC (.str ("-" :Str)))))
def BZ:F3:=fun3 1 1 E5
def IQ:zq BZ 1:=zv
def FW:D3:=(sRet (eCall BZ (aCons (pV 0) aNil)))
def DH:F3:=fun3 1 1 FW
def Nq:zq DH 1:=zv
def FX:D3:=(sSeq (sSet 1 (eB bList (aCons (pV 0) aNil))) (sSeq (sSet 2 (eCall BW (aCons (pV 0) (aCons (pE (eC (.str (" " :Str)))) (aCons (pE (eC (.str ("; " :Str)))) aNil))))) (sSeq (sFz 1) (sSeq (sIf (tOr3 (tE (eOp yf (pE (eCall DH (aCons (pV 1) aNil))) (pV 2))) (tE (eOp yf (pV 1) (pV 0)))) (sRet (eC (.bl false))) sSkip) (sSeq (sFz 2) (sSeq (sSet 3 (yX (eCall CW (aCons (pV 2) aNil)))) (sSeq (sFz 3) (sSeq (sIf (tNot3 (tE (eCall AF (aCons (pV 3) (aCons (pV 0) aNil))))) (sRet (eC (.bl false))) sSkip) (sSeq (qc yG (pV 3) (aCons (pE (eTup (aCons (kJ 0) (aCons (kJ 0) (aCons (pE (eC (.str ("a" :Str)))) aNil))))) aNil)) (sSeq (sFz 2) (sRet (eCall AF (aCons (pE (yX (eCall CW (aCons (pV 2) aNil)))) (aCons (pV 0) aNil))))))))))))))
def CA:F3:=fun3 1 4 FX
def FY:zq CA 1:=zv
def E6:D3:=(sRet (eIf (tE (eOp yd (pV 0) (pE (eC (.str ("-1" :Str)))))) (eNeg (kJ 1)) (eCall yY (aCons (pV 0) aNil))))
def CY:F3:=fun3 1 1 E6
def Nr:zq CY 1:=zv
def FZ:D3:=(sSeq (sAsg (gL (gsCons (gN 1) (gsCons (gN 2) (gsCons (gN 3) (gsCons (gN 4) (gsCons (gN 5) gsNil)))))) (eV 0)) (sRet (eTup (aCons (pE (eCall CV (aCons (pV 1) aNil))) (aCons (pE (eCall yY (aCons (pV 2) aNil))) (aCons (pE (eCall CY (aCons (pV 3) aNil))) (aCons (pE (eCall yY (aCons (pV 4) aNil))) (aCons (pE (eCall yY (aCons (pV 5) aNil))) aNil))))))))
def DI:F3:=fun3 1 6 FZ
def Nt:zq DI 1:=zv
def E7:E3:=(ye 1 [] (iL (pE (eCall qk (aCons (pV 0) (aCons (kJ 5) aNil))))) (gN 0) tTru (eCall DI (aCons (pV 0) aNil)))
def Ga:D3:=(sRet E7)
def CZ:F3:=fun3 1 1 Ga
def IS:zq CZ 1:=zv
def Gb:D3:=(sRet (eCall BZ (aCons (pV 0) aNil)))
def DJ:F3:=fun3 1 1 Gb
def Nu:zq DJ 1:=zv
def Gc:D3:=(sSeq (sSet 1 (eB bList (aCons (pV 0) aNil))) (sSeq (sSet 2 (eCall BW (aCons (pV 0) (aCons (pE (eC (.str (" " :Str)))) (aCons (pE (eC (.str ("; " :Str)))) aNil))))) (sSeq (sFz 1) (sSeq (sIf (tOr3 (tE (eOp yf (pE (eCall DJ (aCons (pV 1) aNil))) (pV 2))) (tE (eOp yf (pV 1) (pV 0)))) (sRet (eC (.bl false))) sSkip) (sSeq (sFz 2) (sSeq (sSet 3 (yX (eCall CZ (aCons (pV 2) aNil)))) (sSeq (sFz 3) (sSeq (sIf (tNot3 (tE (eCall AF (aCons (pV 3) (aCons (pV 0) aNil))))) (sRet (eC (.bl false))) sSkip) (sSeq (qc En (pV 3) aNil) (sSeq (sFz 2) (sRet (eCall AF (aCons (pE (yX (eCall CZ (aCons (pV 2) aNil)))) (aCons (pV 0) aNil))))))))))))))
def CB:F3:=fun3 1 4 Gc
def Gd:zq CB 1:=zv
def Ge:D3:=(sRet (eAnd (eB bIsT (aCons (pV 0) (aCons (pE (eC (.ty "int"))) aNil))) (eNot (eB bIsT (aCons (pV 0) (aCons (pE (eC (.ty "bool"))) aNil))))))
def Dd:F3:=fun3 1 1 Ge
def Nv:zq Dd 1:=zv
def E8:E3:=(ye 1 [0] (iR2 (aCons (kJ 2) (aCons (pE (eB bMax (aCons (kJ 8) (aCons (pE (eB bMin (aCons (pE (eB bLen (aCons (pV 0) aNil))) (aCons (kJ 42) aNil)))) aNil)))) aNil))) (gN 0) tTru (eCall y0 (aCons (pV 1) (aCons (pV 0) aNil))))
def DK:E3:=(ye 1 [] (iL (pV 2)) (gN 0) tTru (eCall qg (aCons (pV 0) aNil)))
def Gf:D3:=(zx (iL (pE (eOp zm (pE DK) (pE (eLst (aCons (kJ 0) (aCons (pE (eOp oSub (pE (eOp oPow (kJ 10) (kJ 11))) (kJ 1))) aNil))))))) (gN 6) (sSeq (sSet 7 (eCall yY (aCons (pE (eB AW (aCons (pV 6) aNil))) aNil))) (sSeq (sFz 7) (sIf (tOr3 (tNot3 (tE (eCall Dd (aCons (pV 7) aNil)))) (tE (eOp yf (pV 7) (pV 6)))) (sRet (eC (.bl false))) sSkip))))
def Gg:D3:=(sSeq (sSet 1 (eCall D6 (aCons (pE (eCall y0 (aCons (pV 0) (aCons (kJ 0) aNil)))) (aCons (pE (eOp zm (kJ 1) (pE (eOp zA (pE (eCall y0 (aCons (pV 0) (aCons (kJ 1) aNil)))) (kJ 6))))) aNil)))) (sSeq (sSet 2 E8) (sSeq (sFz 2) (sSeq (sSet 3 (eCall D7 (aCons (pV 2) aNil))) (sSeq (sFz 3) (sSeq (sIf (tOr3 (tNot3 (tE (eCall BY (aCons (pV 3) aNil)))) (tOr3 (tNot3 (tE (eCall BY (aCons (pE (eSl (pV 3) poN (poS (kJ 1)))) aNil)))) (tNot3 (tE (eCall BY (aCons (pE (eLst aNil)) aNil)))))) (sRet (eC (.bl false))) sSkip) (sSeq (sFz 1) (sSeq (sFz 2) (sSeq (sSet 4 (eCall D8 (aCons (pV 2) (aCons (pV 1) aNil)))) (sSeq (sFz 4) (sSeq (sIf (tOr3 (tNot3 (tE (eCall CA (aCons (pV 4) aNil)))) (tOr3 (tNot3 (tE (eCall CA (aCons (pE (eSl (pV 4) (poS (pE (eNeg (kJ 1)))) poN)) aNil)))) (tNot3 (tE (eCall CA (aCons (pE (eLst aNil)) aNil)))))) (sRet (eC (.bl false))) sSkip) (sSeq (sFz 1) (sSeq (sFz 2) (sSeq (sSet 5 (eCall D9 (aCons (pV 2) (aCons (pV 1) aNil)))) (sSeq (sFz 5) (sSeq (sIf (tOr3 (tNot3 (tE (eCall CB (aCons (pV 5) aNil)))) (tOr3 (tNot3 (tE (eCall CB (aCons (pE (eSl (pV 5) (poS (kJ 1)) (poS (kJ 2)))) aNil)))) (tNot3 (tE (eCall CB (aCons (pE (eLst aNil)) aNil)))))) (sRet (eC (.bl false))) sSkip) (sSeq (sFz 2) (sSeq Gf (sRet (eC (.bl true)))))))))))))))))))))
def f_law:F3:=fun3 1 8 Gg
end My
namespace My
open PySem PySem.Spec PyProof.Rows L2 L3
def zT (i:Nat):Stmt:=PySem.Challenge.pw_dueyard_k81_texts_told_and_read.main.body.getD i (.Pass ⟨0,0,0,0⟩)
abbrev IT:Stmt:=zT 29
def o0:FnScope ["_law_cell_here","_law_many","_law_letters","_law_size","_law_at","_law_names_here","_law_k","_law_name","_law_j","_law_place"] ["_law_cell_here","_law_many"] (zy IT):=zt
abbrev IU:Stmt:=zT 32
def o1:FnScope ["_law_draws","_law_spans_here","_law_turn","_law_cell_here","_law_first","_law_last"] ["_law_draws"] (zy IU):=zt
abbrev IV:Stmt:=zT 31
def o2:FnScope ["_law_cell_here","_law_number_here"] ["_law_cell_here"] (zy IV):=zt
abbrev IW:Stmt:=zT 33
def o3:FnScope ["_law_draws","_law_names_here","_law_plan_here","_law_cell_here","_law_row"] ["_law_draws","_law_names_here"] (zy IW):=zt
abbrev IY:Stmt:=zT 34
def o4:FnScope ["_law_draws","_law_names_here","_law_load_here","_law_cell_here","_law_last","_law_numbers"] ["_law_draws","_law_names_here"] (zy IY):=zt
abbrev IZ:Stmt:=zT 28
def o5:FnScope ["_law_script","_law_k","_law_number_here"] ["_law_script","_law_k"] (zy IZ):=zt
abbrev Gh:Stmt:=zT 12
def o6:FnScope ["word"] ["word"] (zy Gh):=zt
abbrev Ja:Stmt:=zT 13
def o7:FnScope ["word"] ["word"] (zy Ja):=zt
abbrev Gi:Stmt:=zT 35
def o8:FnScope ["_law_rows","_law_inner","_law_outer","_law_texts","_law_row","_law_words"] ["_law_rows","_law_inner","_law_outer"] (zy Gi):=zt
abbrev Jb:Stmt:=zT 21
def o9:FnScope ["word","first","minus","last"] ["word"] (zy Jb):=zt
abbrev Gj:Stmt:=zT 22
def De:FnScope ["text","spans","behind","first","last"] ["text"] (zy Gj):=zt
abbrev Gk:Stmt:=zT 36
def Jc:FnScope ["_law_found","_law_rows","_law_row"] ["_law_found","_law_rows"] (zy Gk):=zt
abbrev Gm:Stmt:=zT 16
def Nx:FnScope ["words"] ["words"] (zy Gm):=zt
abbrev Gn:Stmt:=zT 18
def Ny:FnScope ["spans"] ["spans"] (zy Gn):=zt
abbrev Jd:Stmt:=zT 37
def E9:FnScope ["_law_spans_here","_law_handed","_law_due","_law_found"] ["_law_spans_here"] (zy Jd):=zt
abbrev Gp:Stmt:=zT 7
def Nz:FnScope ["thing"] ["thing"] (zy Gp):=zt
abbrev Je:Stmt:=zT 15
def N0:FnScope ["word"] ["word"] (zy Je):=zt
abbrev EA:Stmt:=zT 23
def Jf:FnScope ["text","words","rows"] ["text","words"] (zy EA):=zt
abbrev Gq:Stmt:=zT 24
def N1:FnScope ["text"] ["text"] (zy Gq):=zt
abbrev Gr:Stmt:=zT 17
def N2:FnScope ["rows"] ["rows"] (zy Gr):=zt
abbrev Jg:Stmt:=zT 19
def N3:FnScope ["plan"] ["plan"] (zy Jg):=zt
abbrev Jh:Stmt:=zT 38
def EB:FnScope ["_law_plan_here","_law_handed","_law_due","_law_found"] ["_law_plan_here"] (zy Jh):=zt
abbrev Ji:Stmt:=zT 14
def N4:FnScope ["word"] ["word"] (zy Ji):=zt
abbrev Jj:Stmt:=zT 25
def Df:FnScope ["row","name","first","last","work","breadth"] ["row"] (zy Jj):=zt
abbrev Gs:Stmt:=zT 26
def N5:FnScope ["text"] ["text"] (zy Gs):=zt
abbrev Jk:Stmt:=zT 20
def N6:FnScope ["load"] ["load"] (zy Jk):=zt
abbrev Jl:Stmt:=zT 39
def EC:FnScope ["_law_load_here","_law_handed","_law_due","_law_found"] ["_law_load_here"] (zy Jl):=zt
abbrev Jm:Stmt:=zT 30
def N7:FnScope ["_law_found"] ["_law_found"] (zy Jm):=zt
abbrev ED:Stmt:=zT 40
def BO:FnScope ["_law_script","_law_names_here","_law_numbers","_law_spans_here","_law_plan_here","_law_load_here","_law_number_here","_law_found"] ["_law_script"] (zy ED):=zt
set_option genInjectivity false in
structure Txt (K:FG) (mg:Str->Option Value) where
 q0:Addr
 q1:FuncData
 q2:Dfn K mg "_law_names" IT ["_law_cell_here","_law_many"] q0 q1
 q3:Addr
 q4:FuncData
 q5:Dfn K mg "_law_spans" IU ["_law_draws"] q3 q4
 q6:Addr
 q7:FuncData
 q8:Dfn K mg "_law_number" IV ["_law_cell_here"] q6 q7
 q9:Addr
 q10:FuncData
 q11:Dfn K mg "_law_plan" IW ["_law_draws","_law_names_here"] q9 q10
 q12:Addr
 q13:FuncData
 q14:Dfn K mg "_law_load" IY ["_law_draws","_law_names_here"] q12 q13
 q15:Addr
 q16:FuncData
 q17:Dfn K mg "_law_cell" IZ ["_law_script","_law_k"] q15 q16
 q18:Addr
 q19:FuncData
 q20:Dfn K mg "are_figures" Gh ["word"] q18 q19
 q21:Addr
 q22:FuncData
 q23:Dfn K mg "number_in" Ja ["word"] q21 q22
 q24:Addr
 q25:FuncData
 q26:Dfn K mg "_law_joined" Gi ["_law_rows","_law_inner","_law_outer"] q24 q25
 q27:Addr
 q28:FuncData
 q29:Dfn K mg "span_in" Jb ["word"] q27 q28
 q30:Addr
 q31:FuncData
 q32:Dfn K mg "spans_in" Gj ["text"] q30 q31
 q33:Addr
 q34:FuncData
 q35:Dfn K mg "_law_read" Gk ["_law_found","_law_rows"] q33 q34
 q36:Addr
 q37:FuncData
 q38:Dfn K mg "words_text" Gm ["words"] q36 q37
 q39:Addr
 q40:FuncData
 q41:Dfn K mg "spans_text" Gn ["spans"] q39 q40
 q42:Addr
 q43:FuncData
 q44:Dfn K mg "_law_spans_right" Jd ["_law_spans_here"] q42 q43
 q45:Addr
 q46:FuncData
 q47:Dfn K mg "is_name" Gp ["thing"] q45 q46
 q48:Addr
 q49:FuncData
 q50:Dfn K mg "name_in" Je ["word"] q48 q49
 q51:Addr
 q52:FuncData
 q53:Dfn K mg "rows_in" EA ["text","words"] q51 q52
 q54:Addr
 q55:FuncData
 q56:Dfn K mg "plan_in" Gq ["text"] q54 q55
 q57:Addr
 q58:FuncData
 q59:Dfn K mg "rows_text" Gr ["rows"] q57 q58
 q60:Addr
 q61:FuncData
 q62:Dfn K mg "plan_text" Jg ["plan"] q60 q61
 q63:Addr
 q64:FuncData
 q65:Dfn K mg "_law_plan_right" Jh ["_law_plan_here"] q63 q64
 q66:Addr
 q67:FuncData
 q68:Dfn K mg "last_in" Ji ["word"] q66 q67
 q69:Addr
 q70:FuncData
 q71:Dfn K mg "job_in" Jj ["row"] q69 q70
 q72:Addr
 q73:FuncData
 q74:Dfn K mg "load_in" Gs ["text"] q72 q73
 q75:Addr
 q76:FuncData
 q77:Dfn K mg "load_text" Jk ["load"] q75 q76
 q78:Addr
 q79:FuncData
 q80:Dfn K mg "_law_load_right" Jl ["_law_load_here"] q78 q79
 q81:Addr
 q82:FuncData
 q83:Dfn K mg "_law_whole" Jm ["_law_found"] q81 q82
 f_law:Addr
 fd_law:FuncData
 d_law:Dfn K mg "law" ED ["_law_script"] f_law fd_law
 q84:mg "all" =none
 q85:mg "any" =none
 q86:mg "bool" =none
 q87:mg "int" =none
 q88:mg "isinstance" =none
 q89:mg "len" =none
 q90:mg "list" =none
 q91:mg "max" =none
 q92:mg "min" =none
 q93:mg "range" =none
 q94:mg "str" =none
 q95:mg "tuple" =none
 q96:Tok
 q97:mg "LETTERS" =some (.str ("abcdefghijklmnopqrstuvwxyz" :Str) q96)
 q98:Tok
 q99:mg "LETTERS_AND_FIGURES" =some (.str ("abcdefghijklmnopqrstuvwxyz0123456789" :Str) q98)
 q100:Tok
 q101:mg "MOST_SIGNS" =some (.int 8 q100)
 q102:Tok
 q103:mg "FIGURES" =some (.str ("0123456789" :Str) q102)
 q104:Tok
 q105:mg "MOST_FIGURES" =some (.int 11 q104)
 q106:Tok
 q107:mg "NOTHING" =some (.str ("-" :Str) q106)
def kx {K:FG} {mg:Str->Option Value} (T:Txt K mg):Kx:=⟨K,fun c=>([]:List (Str×Addr)).lookup c⟩
section
variable {P:Program} {w:World} {K:FG} {mg:Str->Option Value} {base:Heap}
def N8 (T:Txt K mg):FnOk P w K mg base (XT P w) 1 T.q0 T.q1 ["_law_cell_here","_law_many"] (zn (kx T) 2 D6):=z0 T.q2.F o0 fun cdv A outer s H E hr=>by unfold Fx Fw Fv;exact (zj (zI 2 o0.nd yo) (zj (zI 3 o0.nd (zk yt yy zi (za (zk yx yv (zc 0) zi)))) (zj (zI 4 o0.nd (zk yx yv (za (zk yN yO (zc 0) zi)) (zc 3))) (zj (zI 5 o0.nd (qd zf)) (zj (AS (Ir rfl T.q93 (ze (zc 1) zf)) (yH 6 o0.nd) (zj (zI 7 o0.nd yo) (zY 3 (zj (AS (Ir rfl T.q93 (ze (zc 3) zf)) (yH 8 o0.nd) (zj (zI 9 o0.nd (zk yt yy (za (zk yN yO (zc 0) (za (zk yt yy zi (za (zk AR AQ zi (zc 8))))))) (za (zk AR AQ (zc 6) (za (r_ty Mz KH (by rfl) T.q87 Da (ze (za (BS qj (qi (yp hr)) (yc _) (zc 8) (zc 4))) zf))))))) (zp (z5 (yi qj (qi (yp hr)) (yc _) (zc 8) zi) (zp (zI 7 o0.nd (zk yt yy (zc 7) (BK (zc 2) (za (zk yx yv (zc 9) zi)))))) (zp (zI 7 o0.nd (zk yt yy (zc 7) (BK (za (zk yt yy (zc 2) (za yo))) (za (zk yx yv (zc 9) zi)))))))))) (zY 7 (zp (BI BJ rfl Bu Bv AK (zc 5) (ze (zc 7) zf)))))))) (zp (BF (pv 5))))))))
def N9 (T:Txt K mg):FnOk P w K mg base (XT P w) 1 T.q3 T.q4 ["_law_draws"] (zn (kx T) 1 D7):=z0 T.q5.F o1 fun cdv A outer s H E hr=>by unfold Fz Fy;exact (zj (zI 1 o1.nd (qd zf)) (zj (zI 2 o1.nd HR) (zj (AS (yU (zc 0)) (yH 3 o1.nd) (zj (zI 4 o1.nd (zk yt yy (zc 2) (za (zk yx yv (zc 3) (za (zk El DU zi zi)))))) (zj (z5 (yi qj (qi (yp hr)) (yc _) (za (zk yx yv (za (zk yN yO (zc 3) zi)) zi)) zi) (zp (zI 4 o1.nd (zk yt yy (zc 2) (za (zk yx yv (za (zk yN yO (zc 3) zi)) zi))))) yb) (zj (zI 5 o1.nd (zk yt yy (zc 4) (za (zk yx yv (za (zk yN yO (zc 3) zi)) (BK (za (qd (ze zi (ze (za (zk El DU zi zi)) zf)))) (za (zk yx yv (za (zk yN yO (zc 3) zi)) zi))))))) (zY 5 (zY 4 (zj (BI BJ rfl Bu Bv AK (zc 1) (ze (za (AM (ze (zc 4) (ze (zc 5) zf)))) zf)) (zp (zI 2 o1.nd (zk yt yy (zc 5) zi)))))))))) (zp (BF (pv 1))))))
def CC (T:Txt K mg):FnOk P w K mg base (XT P w) 1 T.q6 T.q7 ["_law_cell_here"] (zn (kx T) 1 qg):=z0 T.q8.F o2 fun cdv A outer s H E hr=>by unfold Er;exact (zj (zI 1 o2.nd (zk yx yv (za (zk yN yO (zc 0) zi)) (za (zk El DU zi zi)))) (zj (z5 (yi qj (qi (yp hr)) (yc _) (za (zk yx yv (zc 0) zi)) zi) (zp (zI 1 o2.nd (zk yx yv (za (zk yN yO (zc 0) zi)) zi))) yb) (zp (BF (pv 1)))))
def NA (T:Txt K mg):FnOk P w K mg base (XT P w) 2 T.q9 T.q10 ["_law_draws","_law_names_here"] (zn (kx T) 2 D8):=z0 T.q11.F o3 fun cdv A outer s H E hr=>by unfold FC FA;exact (zj (zI 2 o3.nd (qd zf)) (zj (AS (yU (zc 0)) (yH 3 o3.nd) (zj (zI 4 o3.nd (AM (ze (za (zw BV (CC T) hr T.q8 (ze (zc 3) zf))) (ze (za (zw BV (CC T) hr T.q8 (ze (za (zk yt yy (za (zk yN yO (zc 3) zi)) (za (zk AR AQ zi (zc 3))))) zf))) (ze (BK (zc 1) (za (zk yx yv (zc 3) (za (yq AC (AD rfl) T.q89 Bl (ze (zc 1) zf)))))) zf))))) (zj (BI BJ rfl Bu Bv AK (zc 2) (ze (zc 4) zf)) (zp (z5 (yi qj (qi (yp hr)) (yc _) (za (zk yx yv (za (zk yN yO (zc 3) zi)) zi)) zi) (zp (BI BJ rfl Bu Bv AK (zc 2) (ze (zc 4) zf))) yb))))) (zp (BF (pv 2)))))
def NB (T:Txt K mg):FnOk P w K mg base (XT P w) 2 T.q12 T.q13 ["_law_draws","_law_names_here"] (zn (kx T) 2 D9):=z0 T.q14.F o4 fun cdv A outer s H E hr=>by unfold FE FD;exact (zj (zI 2 o4.nd (qd zf)) (zj (AS (yU (zc 0)) (yH 3 o4.nd) (zj (zI 4 o4.nd (zw BV (CC T) hr T.q8 (ze (za (zk yt yy (za (zk yN yO (zc 3) zi)) (za (zk AR AQ zi (zc 3))))) zf))) (zj (z5 (yi qj (qi (yp hr)) (yc _) (za (zk yx yv (za (zk yN yO (zc 3) zi)) zi)) zi) (zp (zI 4 o4.nd (zk HZ He zi zi))) yb) (zY 4 (zj (zI 5 o4.nd (AM (ze (za (zw BV (CC T) hr T.q8 (ze (zc 3) zf))) (ze (zc 4) (ze (za (zw BV (CC T) hr T.q8 (ze (za (zk yt yy (za (zk yN yO (zc 3) zi)) (zc 3))) zf))) (ze (za (zw BV (CC T) hr T.q8 (ze (za (zk yt yy (za (zk yN yO (zc 3) zi)) (za (zk AR AQ zi (zc 3))))) zf))) zf)))))) (zp (BI BJ rfl Bu Bv AK (zc 2) (ze (za (zk Nc (Nb rfl) (za (AM (ze (BK (zc 1) (za (zk yx yv (za (zk yN yO (zc 3) zi)) (za (yq AC (AD rfl) T.q89 Bl (ze (zc 1) zf)))))) zf))) (zc 5))) zf)))))))) (zp (BF (pv 2)))))
def Gu (T:Txt K mg):FnOk P w K mg base (XT P w) 1 T.q15 T.q16 ["_law_script","_law_k"] (zn (kx T) 2 y0):=z0 T.q17.F o5 fun cdv A outer s H E hr=>by unfold DA;exact (zj (z5 (yi Ia Hf (yc _) (zc 1) (za (yq AC (AD rfl) T.q89 Bl (ze (zc 0) zf)))) (zp (zJ (MC (zc 0) (zc 1)))) yb) (zj (zI 2 o5.nd (zk yt yy (za (zk AR AQ zi (zc 1))) zi)) (zj (z5 (yi EX EL (yc _) (za (yq AC (AD rfl) T.q89 Bl (ze (zc 0) zf))) zi) (zp (zI 2 o5.nd (zk yt yy (zc 2) (za (zk AR AQ (za (zk yx yv (BK (zc 0) (za (zk yx yv (za (zk AR AQ zi (zc 1))) (za (yq AC (AD rfl) T.q89 Bl (ze (zc 0) zf)))))) zi)) (za (zk yt yy (zc 1) zi))))))) yb) (zp (zJ (zk yx yv (za (zk AR AQ (zc 2) (zc 2))) zi))))))
def NC (T:Txt K mg):FnOk P w K mg base (XT P w) 1 T.q18 T.q19 ["word"] (zn (kx T) 1 CT):=z0 T.q20.F o6 fun cdv A outer s H E hr=>by unfold Et Es;exact (zj (z5 (PW.pt (yP (yn (Iu Ek Ek DV DV zi (za (yq AC (AD rfl) T.q89 Bl (ze (zc 0) zf))) (za (yF (AI (v:= .int 11) (by rfl) T.q105 ⟨_,rfl⟩) fun _ _ _=>.int _)))) (qf (yn (yr (yq Fc (Im rfl rfl) T.q84 PyProof.Rows.boot_all (ze (za (AE (loc:=["sign"]) (free:=[]) (fr:=[]) rfl (yZ (sc:=zy Gh) (N:=(["word"]:List Str)) rfl rfl (by decide+kernel)) (I0 (zc 0)) (fun _ _ _ _ _=>(zO 0 (["sign"]:List Str))) (fun _ _ _ _ _=>qb) (fun _ _ _ _ _=>(BS Fh EM (by with_unfolding_all rfl) (zc 0) (za (yF (AI (v:= .str ("0123456789" :Str)) (by rfl) T.q103 ⟨_,rfl⟩) fun _ _ _=>.str _)))))) zf))))))) (zp (zJ zS)) yb) (zp (zJ (r_or (BS AB (AA (yp hr)) (yc _) (BK (zc 0) zi) (za yo)) (ET (BS qj (qi (yp hr)) (yc _) (zc 0) (za yo)))))))
def AZ (T:Txt K mg):FnOk P w K mg base (XT P w) 2 T.q21 T.q22 ["word"] (zn (kx T) 1 yY):=z0 T.q23.F o7 fun cdv A outer s H E hr=>by unfold FH;exact (zj (z5 (yn (yr (zw Nl (NC T) hr T.q20 (ze (zc 0) zf)))) (zp Eh) yb) (zp (zJ (r_ty Na MV (by rfl) T.q87 Da (ze (zc 0) zf)))))
def Gv (T:Txt K mg):FnOk P w K mg base (XT P w) 1 T.q24 T.q25 ["_law_rows","_law_inner","_law_outer"] (zn (kx T) 3 BW):=z0 T.q26.F o8 fun cdv A outer s H E hr=>by unfold FI IH DB;exact (zj (z5 (yi qj (qi (yp hr)) (yc _) (zc 0) (za (qd zf))) (zp (zJ yo)) yb) (zj (zI 3 o8.nd (qd zf)) (zj (AS (yU (zc 0)) (yH 4 o8.nd) (zj (Ff (i:=5) o8.nd rfl (by rfl) (loc:=["_law_thing"]) (free:=[]) (fr:=[]) rfl (yZ (sc:=zy Gi) (N:=(["_law_rows","_law_inner","_law_outer","_law_texts","_law_row","_law_words"]:List Str)) rfl rfl (by decide+kernel)) (Fu rfl (zc 4)) (fun _ _ _ _ _=>(zO 0 (["_law_thing"]:List Str))) (fun _ _ _ _ _=>qb) (fun _ _ _ _ _=>(r_ty Fs Fq (by rfl) T.q94 Cz (ze (zc 0) zf)))) (zY 5 (zp (BI BJ rfl Bu Bv AK (zc 3) (ze (za (Ep rfl (zc 1) (ze (zc 5) zf))) zf)))))) (zY 3 (zp (zJ (Ep rfl (zc 2) (ze (zc 3) zf))))))))
def ND (T:Txt K mg):FnOk P w K mg base (XT P w) 3 T.q27 T.q28 ["word"] (zn (kx T) 1 DC):=z0 T.q29.F o9 fun cdv A outer s H E hr=>by unfold FK;exact (zj (HX (MZ (zc 0) (ze (za yo) zf)) (EV (n:=3) (EK rfl (yR (yH 1 o9.nd) (yR (yH 2 o9.nd) (yR (yH 3 o9.nd) Dv yS) yS) yS)) (yT (yT (yT D1)))) Hb) (zp (zJ (AM (ze (za (zw AX (AZ T) hr T.q23 (ze (zc 1) zf))) (ze (za (zw AX (AZ T) hr T.q23 (ze (zc 3) zf))) zf))))))
def Jn (T:Txt K mg):FnOk P w K mg base (XT P w) 4 T.q30 T.q31 ["text"] (zn (kx T) 1 BX):=z0 T.q32.F De fun cdv A outer s H E hr=>by unfold FN FL Eu;exact (zj (z5 (yi qj (qi (yp hr)) (yc _) (zc 0) (za (yF (AI (v:= .str ("-" :Str)) (by rfl) T.q107 ⟨_,rfl⟩) fun _ _ _=>.str _))) (zp (zJ (r_gl (qd zf)))) yb) (zj (MM (i:=1) De.nd rfl (by rfl) (loc:=["word"]) (free:=[]) (fr:=[]) rfl (yZ (sc:=zy Gj) (N:=(["text","spans","behind","first","last"]:List Str)) rfl rfl (by decide+kernel)) (yU (za (Fp (zc 0) (ze (za yo) zf)))) (fun _ _ _ _ _=>(zO 0 (["word"]:List Str))) (fun _ _ _ _ _=>qb) (fun _ _ _ _ _=>(AN Nm (ND T) (hr.mono (by decide)) (by rfl) T.q29.g T.q29.F.kp T.q29.b BG (ze (zc 0) zf)))) (zj (zI 2 De.nd (Fg zi)) (zj (AS (yU (zc 1)) (EV (n:=2) (EK rfl (yR (yH 3 De.nd) (yR (yH 4 De.nd) Dv yS) yS)) (yT (yT D1))) (zj (z5 (PW.pt (yP (yi EX EL (yc _) (zc 3) (zc 4)) (qf (yi Ia Hf (yc _) (zc 3) (za (zk yt yy (zc 2) zi)))))) (zp Eh) yb) (zp (zI 2 De.nd (r_v (pv 4)))))) (zp (BF (pv 1)))))))
def Dg (T:Txt K mg):FnOk P w K mg base (XT P w) 1 T.q33 T.q34 ["_law_found","_law_rows"] (zn (kx T) 2 AF):=z0 T.q35.F Jc fun cdv A outer s H E hr=>by unfold FP FO Ew;exact (zj (z5 (PW.pt (yP (yn (yr (yq CP (CQ rfl) T.q88 B6 (ze (zc 0) (ze (za (yF (CK (v:= .ty "list") (by rfl) T.q90 C0 rfl) fun _ _ _=>.ty _)) zf))))) (qf (yi AB (AA (yp hr)) (yc _) (zc 0) (zc 1))))) (zp (zJ zS)) yb) (zj (AS (yU (zc 0)) (yH 2 Jc.nd) (zp (z5 (PW.pt (yP (yn (yr (yq CP (CQ rfl) T.q88 B6 (ze (zc 2) (ze (za (yF (CK (v:= .ty "tuple") (by rfl) T.q95 PyProof.Rows.boot_tuple rfl) fun _ _ _=>.ty _)) zf))))) (qf (yi EX EL (yc _) (za (yq AC (AD rfl) T.q89 Bl (ze (za (AE (loc:=["_law_thing"]) (free:=[]) (fr:=[]) rfl (yZ (sc:=zy Gk) (N:=(["_law_found","_law_rows","_law_row"]:List Str)) rfl rfl (by decide+kernel)) (Fu rfl (zc 2)) (fun _ _ _ _ _=>(zO 0 (["_law_thing"]:List Str))) (fun _ _ _ _ _=>(M6 (yr (yq CP (CQ rfl) T.q88 B6 (ze (zc 0) (ze (za (yF (CK (v:= .ty "bool") (by rfl) T.q86 PyProof.Rows.boot_bool rfl) fun _ _ _=>.ty _)) zf)))))) (fun _ _ _ _ _=>(r_v (pv 0))))) zf))) zi)))) (zp (zJ zS)) yb))) (zp (zJ zS))))
def Jp (T:Txt K mg):FnOk P w K mg base (XT P w) 1 T.q36 T.q37 ["words"] (zn (kx T) 1 AY):=z0 T.q38.F Nx fun cdv A outer s H E hr=>by unfold DD BN;exact (zp (zJ (r_if (Ip rfl (zc 0)) (Ep rfl (za yo) (ze (za (AE (loc:=["word"]) (free:=[]) (fr:=[]) rfl (yZ (sc:=zy Gm) (N:=(["words"]:List Str)) rfl rfl (by decide+kernel)) (Fu rfl (zc 0)) (fun _ _ _ _ _=>(zO 0 (["word"]:List Str))) (fun _ _ _ _ _=>qb) (fun _ _ _ _ _=>(r_ty Fs Fq (by rfl) T.q94 Cz (ze (zc 0) zf))))) zf)) (yF (AI (v:= .str ("-" :Str)) (by rfl) T.q107 ⟨_,rfl⟩) fun _ _ _=>.str _))))
def NF (T:Txt K mg):FnOk P w K mg base (XT P w) 2 T.q39 T.q40 ["spans"] (zn (kx T) 1 DE):=z0 T.q41.F Ny fun cdv A outer s H E hr=>by unfold FQ Ex;exact (zp (zJ (zw IJ (Jp T) hr T.q38 (ze (za (AE (loc:=["first","last"]) (free:=[]) (fr:=[]) rfl (yZ (sc:=zy Gn) (N:=(["spans"]:List Str)) rfl rfl (by decide+kernel)) (yU (zc 0)) (fun _ _ _ _ _=>(EV (n:=2) (pgT 2 rfl rfl (yR (zO 0 (["first","last"]:List Str)) (yR (zO 1 (["first","last"]:List Str)) Dv yS) yS)) (yT (yT D1)))) (fun _ _ _ _ _=>qb) (fun _ _ _ _ _=>(r_f3 (za (IG (zc 0))) (za yo) (za (IG (zc 1))))))) zf))))
def Gw (T:Txt K mg):FnOk P w K mg base (XT P w) 5 T.q42 T.q43 ["_law_spans_here"] (zn (kx T) 1 BY):=z0 T.q44.F E9 fun cdv A outer s H E hr=>by unfold FR;exact (zj (zI 1 E9.nd (r_ty EZ (Fd rfl) (by rfl) T.q90 C0 (ze (zc 0) zf))) (zj (zI 2 E9.nd (zw FJ (Gv T) hr T.q26 (ze (zc 0) (ze (za yo) (ze (za yo) zf))))) (zY 1 (zj (z5 (PW.pt (yP (yi AB (AA (yp hr)) (yc _) (za (zw Nn (NF T) hr T.q41 (ze (zc 1) zf))) (zc 2)) (qf (yi AB (AA (yp hr)) (yc _) (zc 1) (zc 0))))) (zp (zJ zS)) yb) (zY 2 (zj (zI 3 E9.nd (zw II (Jn T) hr T.q32 (ze (zc 2) zf))) (zY 3 (zj (z5 (yn (yr (zw CU (Dg T) hr T.q35 (ze (zc 3) (ze (zc 0) zf))))) (zp (zJ zS)) yb) (zj (BI BJ rfl Bu Bv AK (zc 3) (ze (za (AM (ze zi (ze zi zf)))) zf)) (zY 2 (zp (zJ (zw CU (Dg T) hr T.q35 (ze (za (zw II (Jn T) hr T.q32 (ze (zc 2) zf))) (ze (zc 0) zf)))))))))))))))
def NG (T:Txt K mg):FnOk P w K mg base (XT P w) 1 T.q45 T.q46 ["thing"] (zn (kx T) 1 DF):=z0 T.q47.F Nz fun cdv A outer s H E hr=>by unfold FT Ey;exact (zj (z5 (PW.pt (yP (yn (yr (yq CP (CQ rfl) T.q88 B6 (ze (zc 0) (ze (za (yF (CK (v:= .ty "str") (by rfl) T.q94 Cz rfl) fun _ _ _=>.ty _)) zf))))) (qf (yn (Iu Ek Ek DV DV zi (za (yq AC (AD rfl) T.q89 Bl (ze (zc 0) zf))) (za (yF (AI (v:= .int 8) (by rfl) T.q101 ⟨_,rfl⟩) fun _ _ _=>.int _))))))) (zp (zJ zS)) yb) (zp (zJ (HS (BS Fh EM (by with_unfolding_all rfl) (BK (zc 0) zi) (za (yF (AI (v:= .str ("abcdefghijklmnopqrstuvwxyz" :Str)) (by rfl) T.q97 ⟨_,rfl⟩) fun _ _ _=>.str _))) (ET (yq Fc (Im rfl rfl) T.q84 PyProof.Rows.boot_all (ze (za (AE (loc:=["sign"]) (free:=[]) (fr:=[]) rfl (yZ (sc:=zy Gp) (N:=(["thing"]:List Str)) rfl rfl (by decide+kernel)) (I0 (zc 0)) (fun _ _ _ _ _=>(zO 0 (["sign"]:List Str))) (fun _ _ _ _ _=>qb) (fun _ _ _ _ _=>(BS Fh EM (by with_unfolding_all rfl) (zc 0) (za (yF (AI (v:= .str ("abcdefghijklmnopqrstuvwxyz0123456789" :Str)) (by rfl) T.q99 ⟨_,rfl⟩) fun _ _ _=>.str _)))))) zf)))))))
def Jq (T:Txt K mg):FnOk P w K mg base (XT P w) 2 T.q48 T.q49 ["word"] (zn (kx T) 1 CV):=z0 T.q50.F N0 fun cdv A outer s H E hr=>by unfold FU;exact (zj (z5 (yn (yr (zw Np (NG T) hr T.q47 (ze (zc 0) zf)))) (zp Eh) yb) (zp (BF (pv 0))))
def Jr (T:Txt K mg):FnOk P w K mg base (XT P w) 1 T.q51 T.q52 ["text","words"] (zn (kx T) 2 qk):=z0 T.q53.F Jf fun cdv A outer s H E hr=>by unfold E2 E1 Ez;exact (zj (z5 (yi qj (qi (yp hr)) (yc _) (zc 0) (za (yF (AI (v:= .str ("-" :Str)) (by rfl) T.q107 ⟨_,rfl⟩) fun _ _ _=>.str _))) (zp (zJ (qd zf))) yb) (zj (Ff (i:=2) Jf.nd rfl (by rfl) (loc:=["row"]) (free:=[]) (fr:=[]) rfl (yZ (sc:=zy EA) (N:=(["text","words","rows"]:List Str)) rfl rfl (by decide+kernel)) (yU (za (Fp (zc 0) (ze (za yo) zf)))) (fun _ _ _ _ _=>(zO 0 (["row"]:List Str))) (fun _ _ _ _ _=>qb) (fun _ _ _ _ _=>(Fp (zc 0) (ze (za yo) zf)))) (zY 2 (zj (z5 (yr (yq Fc (M0 rfl rfl) T.q85 PyProof.Rows.boot_any (ze (za (AE (loc:=["row"]) (free:=["words"]) (fr:=[1]) rfl (yZ (sc:=zy EA) (N:=(["text","words","rows"]:List Str)) rfl rfl (by decide+kernel)) (yU (zc 2)) (fun _ _ _ _ _=>(zO 0 (["row","words"]:List Str))) (fun _ _ _ _ _=>qb) (fun _ _ _ _ _=>(BS AB (AA (yp hr)) (yc _) (za (yq AC (AD rfl) T.q89 Bl (ze (zc 0) zf))) (zc 1))))) zf))) (zp Eh) yb) (zp (BF (pv 2)))))))
def Js (T:Txt K mg):FnOk P w K mg base (XT P w) 3 T.q54 T.q55 ["text"] (zn (kx T) 1 CW):=z0 T.q56.F N1 fun cdv A outer s H E hr=>by unfold FV E4;exact (zp (zJ (AE (loc:=["turn","machine","name"]) (free:=[]) (fr:=[]) rfl (yZ (sc:=zy Gq) (N:=(["text"]:List Str)) rfl rfl (by decide+kernel)) (yU (za (zw IL (Jr T) hr T.q53 (ze (zc 0) (ze zi zf))))) (fun _ _ _ _ _=>(HW (n:=3) (HN rfl (yR (zO 0 (["turn","machine","name"]:List Str)) (yR (zO 1 (["turn","machine","name"]:List Str)) (yR (zO 2 (["turn","machine","name"]:List Str)) Dv yS) yS) yS)) (yT (yT (yT D1))))) (fun _ _ _ _ _=>qb) (fun _ _ _ _ _=>(AM (ze (za (AN AX (AZ T) (hr.mono (by decide)) (by rfl) T.q23.g T.q23.F.kp T.q23.b BG (ze (zc 0) zf))) (ze (za (AN AX (AZ T) (hr.mono (by decide)) (by rfl) T.q23.g T.q23.F.kp T.q23.b BG (ze (zc 1) zf))) (ze (za (AN IK (Jq T) (hr.mono (by decide)) (by rfl) T.q50.g T.q50.F.kp T.q50.b BG (ze (zc 2) zf))) zf))))))))
def Jt (T:Txt K mg):FnOk P w K mg base (XT P w) 2 T.q57 T.q58 ["rows"] (zn (kx T) 1 BZ):=z0 T.q59.F N2 fun cdv A outer s H E hr=>by unfold E5 DG;exact (zp (zJ (r_if (Ip rfl (zc 0)) (Ep rfl (za yo) (ze (za (AE (loc:=["row"]) (free:=[]) (fr:=[]) rfl (yZ (sc:=zy Gr) (N:=(["rows"]:List Str)) rfl rfl (by decide+kernel)) (yU (zc 0)) (fun _ _ _ _ _=>(zO 0 (["row"]:List Str))) (fun _ _ _ _ _=>qb) (fun _ _ _ _ _=>(AN IJ (Jp T) (hr.mono (by decide)) (by rfl) T.q38.g T.q38.F.kp T.q38.b BG (ze (zc 0) zf))))) zf)) (yF (AI (v:= .str ("-" :Str)) (by rfl) T.q107 ⟨_,rfl⟩) fun _ _ _=>.str _))))
def NH (T:Txt K mg):FnOk P w K mg base (XT P w) 3 T.q60 T.q61 ["plan"] (zn (kx T) 1 DH):=z0 T.q62.F N3 fun cdv A outer s H E hr=>by unfold FW;exact (zp (zJ (zw IQ (Jt T) hr T.q59 (ze (zc 0) zf))))
def Gx (T:Txt K mg):FnOk P w K mg base (XT P w) 4 T.q63 T.q64 ["_law_plan_here"] (zn (kx T) 1 CA):=z0 T.q65.F EB fun cdv A outer s H E hr=>by unfold FX;exact (zj (zI 1 EB.nd (r_ty EZ (Fd rfl) (by rfl) T.q90 C0 (ze (zc 0) zf))) (zj (zI 2 EB.nd (zw FJ (Gv T) hr T.q26 (ze (zc 0) (ze (za yo) (ze (za yo) zf))))) (zY 1 (zj (z5 (PW.pt (yP (yi AB (AA (yp hr)) (yc _) (za (zw Nq (NH T) hr T.q62 (ze (zc 1) zf))) (zc 2)) (qf (yi AB (AA (yp hr)) (yc _) (zc 1) (zc 0))))) (zp (zJ zS)) yb) (zY 2 (zj (zI 3 EB.nd (r_gl (zw IM (Js T) hr T.q56 (ze (zc 2) zf)))) (zY 3 (zj (z5 (yn (yr (zw CU (Dg T) hr T.q35 (ze (zc 3) (ze (zc 0) zf))))) (zp (zJ zS)) yb) (zj (BI BJ rfl Bu Bv AK (zc 3) (ze (za (AM (ze zi (ze zi (ze (za yo) zf))))) zf)) (zY 2 (zp (zJ (zw CU (Dg T) hr T.q35 (ze (za (r_gl (zw IM (Js T) hr T.q56 (ze (zc 2) zf)))) (ze (zc 0) zf)))))))))))))))
def NI (T:Txt K mg):FnOk P w K mg base (XT P w) 3 T.q66 T.q67 ["word"] (zn (kx T) 1 CY):=z0 T.q68.F N4 fun cdv A outer s H E hr=>by unfold E6;exact (zp (zJ (r_if (yi qj (qi (yp hr)) (yc _) (zc 0) (za yo)) (Fg zi) (zw AX (AZ T) hr T.q23 (ze (zc 0) zf)))))
def NJ (T:Txt K mg):FnOk P w K mg base (XT P w) 4 T.q69 T.q70 ["row"] (zn (kx T) 1 DI):=z0 T.q71.F Df fun cdv A outer s H E hr=>by unfold FZ;exact (zj (HX (r_v (pv 0)) (HW (n:=5) (HN rfl (yR (yH 1 Df.nd) (yR (yH 2 Df.nd) (yR (yH 3 Df.nd) (yR (yH 4 Df.nd) (yR (yH 5 Df.nd) Dv yS) yS) yS) yS) yS)) (yT (yT (yT (yT (yT D1)))))) Hb) (zp (zJ (AM (ze (za (zw IK (Jq T) hr T.q50 (ze (zc 1) zf))) (ze (za (zw AX (AZ T) hr T.q23 (ze (zc 2) zf))) (ze (za (zw Nr (NI T) hr T.q68 (ze (zc 3) zf))) (ze (za (zw AX (AZ T) hr T.q23 (ze (zc 4) zf))) (ze (za (zw AX (AZ T) hr T.q23 (ze (zc 5) zf))) zf)))))))))
def Ju (T:Txt K mg):FnOk P w K mg base (XT P w) 5 T.q72 T.q73 ["text"] (zn (kx T) 1 CZ):=z0 T.q74.F N5 fun cdv A outer s H E hr=>by unfold Ga E7;exact (zp (zJ (AE (loc:=["row"]) (free:=[]) (fr:=[]) rfl (yZ (sc:=zy Gs) (N:=(["text"]:List Str)) rfl rfl (by decide+kernel)) (yU (za (zw IL (Jr T) hr T.q53 (ze (zc 0) (ze zi zf))))) (fun _ _ _ _ _=>(zO 0 (["row"]:List Str))) (fun _ _ _ _ _=>qb) (fun _ _ _ _ _=>(AN Nt (NJ T) (hr.mono (by decide)) (by rfl) T.q71.g T.q71.F.kp T.q71.b BG (ze (zc 0) zf))))))
def NK (T:Txt K mg):FnOk P w K mg base (XT P w) 3 T.q75 T.q76 ["load"] (zn (kx T) 1 DJ):=z0 T.q77.F N6 fun cdv A outer s H E hr=>by unfold Gb;exact (zp (zJ (zw IQ (Jt T) hr T.q59 (ze (zc 0) zf))))
def Gy (T:Txt K mg):FnOk P w K mg base (XT P w) 6 T.q78 T.q79 ["_law_load_here"] (zn (kx T) 1 CB):=z0 T.q80.F EC fun cdv A outer s H E hr=>by unfold Gc;exact (zj (zI 1 EC.nd (r_ty EZ (Fd rfl) (by rfl) T.q90 C0 (ze (zc 0) zf))) (zj (zI 2 EC.nd (zw FJ (Gv T) hr T.q26 (ze (zc 0) (ze (za yo) (ze (za yo) zf))))) (zY 1 (zj (z5 (PW.pt (yP (yi AB (AA (yp hr)) (yc _) (za (zw Nu (NK T) hr T.q77 (ze (zc 1) zf))) (zc 2)) (qf (yi AB (AA (yp hr)) (yc _) (zc 1) (zc 0))))) (zp (zJ zS)) yb) (zY 2 (zj (zI 3 EC.nd (r_gl (zw IS (Ju T) hr T.q74 (ze (zc 2) zf)))) (zY 3 (zj (z5 (yn (yr (zw CU (Dg T) hr T.q35 (ze (zc 3) (ze (zc 0) zf))))) (zp (zJ zS)) yb) (zj (MA MB rfl PySem.F.slot_list_clear PySem.F.type_list_clear Lx (zc 3)) (zY 2 (zp (zJ (zw CU (Dg T) hr T.q35 (ze (za (r_gl (zw IS (Ju T) hr T.q74 (ze (zc 2) zf)))) (ze (zc 0) zf)))))))))))))))
def NL (T:Txt K mg):FnOk P w K mg base (XT P w) 1 T.q81 T.q82 ["_law_found"] (zn (kx T) 1 Dd):=z0 T.q83.F N7 fun cdv A outer s H E hr=>by unfold Ge;exact (zp (zJ (HS (yq CP (CQ rfl) T.q88 B6 (ze (zc 0) (ze (za (yF (CK (v:= .ty "int") (by rfl) T.q87 Da rfl) fun _ _ _=>.ty _)) zf))) (ET (Mb (yq CP (CQ rfl) T.q88 B6 (ze (zc 0) (ze (za (yF (CK (v:= .ty "bool") (by rfl) T.q86 PyProof.Rows.boot_bool rfl) fun _ _ _=>.ty _)) zf))))))))
def G_law (T:Txt K mg):FnOk P w K mg base (XT P w) 7 T.f_law T.fd_law ["_law_script"] (zn (kx T) 1 f_law):=z0 T.d_law.F BO fun cdv A outer s H E hr=>by unfold Gg Gf DK E8;exact (zj (zI 1 BO.nd (zw Nh (N8 T) hr T.q2 (ze (za (zw FF (Gu T) hr T.q17 (ze (zc 0) (ze zi zf)))) (ze (za (zk yt yy zi (za (zk yx yv (za (zw FF (Gu T) hr T.q17 (ze (zc 0) (ze zi zf)))) zi)))) zf)))) (zj (Ff (i:=2) BO.nd rfl (by rfl) (loc:=["_law_k"]) (free:=["_law_script"]) (fr:=[0]) rfl (yZ (sc:=zy ED) (N:=(["_law_script","_law_names_here","_law_numbers","_law_spans_here","_law_plan_here","_law_load_here","_law_number_here","_law_found"]:List Str)) rfl rfl (by decide+kernel)) (M5 rfl T.q93 (ze zi (ze (za (yq Mw (KF rfl) T.q91 PyProof.Rows.boot_max (ze zi (ze (za (yq Mx (KG rfl) T.q92 PyProof.Rows.boot_min (ze (za (yq AC (AD rfl) T.q89 Bl (ze (zc 0) zf))) (ze zi zf)))) zf)))) zf))) (fun _ _ _ _ _=>(zO 0 (["_law_k","_law_script"]:List Str))) (fun _ _ _ _ _=>qb) (fun _ _ _ _ _=>(AN FF (Gu T) (hr.mono (by decide)) (by rfl) T.q17.g T.q17.F.kp T.q17.b BG (ze (zc 1) (ze (zc 0) zf))))) (zY 2 (zj (zI 3 BO.nd (zw Ni (N9 T) hr T.q5 (ze (zc 2) zf))) (zY 3 (zj (z5 (PW.pt (yP (yn (yr (zw FS (Gw T) hr T.q44 (ze (zc 3) zf)))) (yP (yn (yr (zw FS (Gw T) hr T.q44 (ze (za (r_sl rfl (zc 3) Iv (Em zi))) zf)))) (qf (yn (yr (zw FS (Gw T) hr T.q44 (ze (za (qd zf)) zf)))))))) (zp (zJ zS)) yb) (zY 1 (zY 2 (zj (zI 4 BO.nd (zw Nj (NA T) hr T.q11 (ze (zc 2) (ze (zc 1) zf)))) (zY 4 (zj (z5 (PW.pt (yP (yn (yr (zw FY (Gx T) hr T.q65 (ze (zc 4) zf)))) (yP (yn (yr (zw FY (Gx T) hr T.q65 (ze (za (r_sl rfl (zc 4) (Em (za (Fg zi))) Iv)) zf)))) (qf (yn (yr (zw FY (Gx T) hr T.q65 (ze (za (qd zf)) zf)))))))) (zp (zJ zS)) yb) (zY 1 (zY 2 (zj (zI 5 BO.nd (zw Nk (NB T) hr T.q14 (ze (zc 2) (ze (zc 1) zf)))) (zY 5 (zj (z5 (PW.pt (yP (yn (yr (zw Gd (Gy T) hr T.q80 (ze (zc 5) zf)))) (yP (yn (yr (zw Gd (Gy T) hr T.q80 (ze (za (r_sl rfl (zc 5) (Em zi) (Em zi))) zf)))) (qf (yn (yr (zw Gd (Gy T) hr T.q80 (ze (za (qd zf)) zf)))))))) (zp (zJ zS)) yb) (zY 2 (zj (AS (yU (za (zk yt yy (za (AE (loc:=["_law_cell_here"]) (free:=[]) (fr:=[]) rfl (yZ (sc:=zy ED) (N:=(["_law_script","_law_names_here","_law_numbers","_law_spans_here","_law_plan_here","_law_load_here","_law_number_here","_law_found"]:List Str)) rfl rfl (by decide+kernel)) (yU (zc 2)) (fun _ _ _ _ _=>(zO 0 (["_law_cell_here"]:List Str))) (fun _ _ _ _ _=>qb) (fun _ _ _ _ _=>(AN BV (CC T) (hr.mono (by decide)) (by rfl) T.q8.g T.q8.F.kp T.q8.b BG (ze (zc 0) zf))))) (za (qd (ze zi (ze (za (zk HZ He (za (zk El DU zi zi)) zi)) zf))))))) (yH 6 BO.nd) (zj (zI 7 BO.nd (zw AX (AZ T) hr T.q23 (ze (za (r_ty Fs Fq (by rfl) T.q94 Cz (ze (zc 6) zf))) zf))) (zY 7 (zp (z5 (PW.pt (yP (yn (yr (zw Nv (NL T) hr T.q83 (ze (zc 7) zf)))) (qf (yi AB (AA (yp hr)) (yc _) (zc 7) (zc 6))))) (zp (zJ zS)) yb))))) (zp (zJ zS))))))))))))))))))))
end
end My
def PySem.W.Fast.tw14598715356260435866:Nat:=0
def PySem.W.Fast.tw7238046018651277534:Nat:=0
def PySem.W.Fast.tw6534874000650894987:Nat:=0
def PySem.W.Fast.tw10544295344006241723:Nat:=0
def PySem.W.Fast.tw3182386257043530798:Nat:=0
def PySem.W.Fast.tw12329155263669439519:Nat:=0
def PySem.W.Fast.tw3677632882827384062:Nat:=0
def PySem.W.Fast.tw13388153557339397715:Nat:=0
def PySem.W.Fast.tw16205993139258394665:Nat:=0
def PySem.W.Fast.tw12186927737360925045:Nat:=0
def PySem.W.Fast.tw13256641116850012859:Nat:=0
def PySem.W.Fast.tw4069818745696331118:Nat:=0
def PySem.W.Fast.tw12309487429465621764:Nat:=0
def PySem.W.Fast.tw10594365738534580157:Nat:=0
def PySem.W.Fast.tw1319192029097868252:Nat:=0
def PySem.W.Fast.tw10178460254095656201:Nat:=0
def PySem.W.Fast.tw17846797487192150033:Nat:=0
def PySem.W.Fast.tw12196925527506493495:Nat:=0
def PySem.W.Fast.tw8565733149115213228:Nat:=0
def PySem.W.Fast.tw6667695353286145696:Nat:=0
def PySem.W.Fast.tw11488531227469871684:Nat:=0
def PySem.W.Fast.tw5822829993140332335:Nat:=0
def PySem.W.Fast.tw1992449075930466090:Nat:=0
def PySem.W.Fast.tw5262731503136342451:Nat:=0
def PySem.W.Fast.tw5173889594236819067:Nat:=0
def PySem.W.Fast.tw10531621347620151403:Nat:=0
def PySem.W.Fast.tw12411216588197505872:Nat:=0
def PySem.W.Fast.tw17495155262278756735:Nat:=0
def PySem.W.Fast.tw8988036822726370258:Nat:=0
def PySem.W.Fast.tw3510150404263062150:Nat:=0
def PySem.W.Fast.tw17754248650196429969:Nat:=0
def PySem.W.Fast.tw13382517209694705417:Nat:=0
namespace My
open PySem PySem.W L2 L3
def ask:L4.Ask where
 law:=40
 at_:=[2,3,15,22,23,24,25,28,35,36,37,40,43,44,45,48,49,50,52,53,55,56,57,59,60,62,63,64,66,67,69,70,71,74,75,76,79,80,81,84,85,86,88,89,91,92,93,95,96,98,99,100,102,103,105,106,107,110,111,112,115,116,117,120,121,122,124,125,127,128,129,132,133,134,136,137,139,140,141,143,144,146,147,148,150,151,153,154,155,157,158,160,161,162,164,165,167,168,169,171,172,174,175,176,178,179,181,182,183,186,187,188,191,192,193,195,196,198,199,200,202,203,205,206,207,209,210,212,213,214,217,218]
 defs:=[("_law_names",29),("_law_spans",32),("_law_number",31),("_law_plan",33),("_law_load",34),("_law_cell",28),("are_figures",12),("number_in",13),("_law_joined",35),("span_in",21),("spans_in",22),("_law_read",36),("words_text",16),("spans_text",18),("_law_spans_right",37),("is_name",7),("name_in",15),("rows_in",23),("plan_in",24),("rows_text",17),("plan_text",19),("_law_plan_right",38),("last_in",14),("job_in",25),("load_in",26),("load_text",20),("_law_load_right",39),("_law_whole",30),("law",40)]
 cls:=[]
 bare:=["all","any","bool","int","isinstance","len","list","max","min","range","str","tuple"]
 con:=[("LETTERS",.str ("abcdefghijklmnopqrstuvwxyz" :Str)),("LETTERS_AND_FIGURES",.str ("abcdefghijklmnopqrstuvwxyz0123456789" :Str)),("MOST_SIGNS",.int 8),("FIGURES",.str ("0123456789" :Str)),("MOST_FIGURES",.int 11),("NOTHING",.str ("-" :Str))]
end My
lay_quick L4.claim L4.goal
open PySem PySem.W in
def My.one1:∀(w:World) (os:OsState),PySem.W.Fast.tw6268680626415656479 My.ask 20000 PySem.Challenge.pw_dueyard_k81_texts_told_and_read w os=PySem.W.Fast.tw12952061662341455360 My.ask PySem.Challenge.pw_dueyard_k81_texts_told_and_read:=by
 intro w os
 kernel_rfl
open PySem PySem.W in
def My.one:∀(w:World) (os:OsState),L4.claim My.ask 20000 PySem.Challenge.pw_dueyard_k81_texts_told_and_read w os=L4.goal My.ask PySem.Challenge.pw_dueyard_k81_texts_told_and_read:=by
 rw[PySem.W.Fast.te6268680626415656479,PySem.W.Fast.te12952061662341455360];exact My.one1
namespace L3
open PySem L2
def ev:type_of% (zb (zb (zb (zb (zb (zb @L3.fun3.eq_1 (zb @L3.start3.eq_1 @L3.sSeq.eq_1)) (zb (zb @L3.sSet.eq_1 @L3.sRet.eq_1) (zb @L3.sRetS.eq_1 @L3.sRetN.eq_1))) (zb (zb (zb @L3.sIf.eq_1 @L3.sExp.eq_1) (zb @L3.sFz.eq_1 @L3.sAug.eq_1)) (zb (zb @L3.sAsg.eq_1 @L3.sSkip.eq_1) (zb @L3.sNever.eq_1 @L3.gN.eq_1)))) (zb (zb (zb @L3.eV.eq_1 (zb @L3.eC.eq_1 @L3.pV.eq_1)) (zb (zb @L3.pE.eq_1 @L3.eOp.eq_1) (zb @L3.eNeg.eq_1 @L3.eNot.eq_1))) (zb (zb (zb @L3.eAnd.eq_1 @L3.eOr.eq_1) (zb @L3.eIf.eq_1 @L3.eChain.eq_1)) (zb (zb @L3.oEq_int @L3.oNe_int) (zb @L3.nx_ite @L3.rt_ite))))) (zb (zb (zb (zb @L3.ok_ite (zb @L3.cons_ite @L3.some_ite)) (zb (zb @L3.v_ite @L3.int_ite) (zb @L3.bl_ite @ite_self.{1}))) (zb (zb (zb @B0 @and_true) (zb @true_and @and_self)) (zb (zb @L3.eTup.eq_1 @L3.eLst.eq_1) (zb @L3.aCons.eq_1 @L3.aNil.eq_1)))) (zb (zb (zb (zb @L3.eB.eq_1 @L3.isa.eq_1) (zb @L3.eCall.eq_1 @L3.tE.eq_1)) (zb (zb @L3.tP.eq_1 @L3.tTru.eq_1) (zb @L3.tAnd3.eq_1 @L3.tOr3.eq_1))) (zb (zb (zb @L3.tNot3.eq_1 @L3.mtO.eq_1) (zb @L3.at0 @L3.at1)) (zb (zb @L3.at2 @L3.at3) (zb @L3.at4 @Ao.{0,0})))))) (zb (zb (zb (zb (zb @Bp.{0,0} (zb @A4.{0} @List.length_nil.{0})) (zb (zb @List.cons_append.{0} @Bz.{0}) (zb @Ca.{0} @Cu.{0}))) (zb (zb (zb @Cw.{0} @List.getElem?_nil.{0}) (zb @List.set_cons_zero.{0} @List.set_cons_succ.{0})) (zb (zb @A0.{0,0} @Option.map_none.{0,0}) (zb @Cv.{0,0} @Nat.zero_add)))) (zb (zb (zb @ite_true.{1} (zb @ite_false.{1} @Bh.{1})) (zb (zb @Bs.{1} @Ck) (zb @Bool.not_false @decide_true))) (zb (zb (zb @decide_false @Bool.true_and) (zb @Co @Bool.or_true)) (zb (zb @Cc @Bool.true_or) (zb @Bool.false_or @Ct.{0}))))) (zb (zb (zb (zb @or_true (zb @true_or @Bk)) (zb (zb @false_or @L3.oAdd_int) (zb @L3.oAddI_int @L3.oSub_int))) (zb (zb (zb @L3.oMul_int @L3.oDiv_int) (zb @L3.oMod_int @L3.oShr_int)) (zb (zb @L3.oPow_int @L3.oAndI_int) (zb @L3.oLt_int @L3.oLe_int)))) (zb (zb (zb (zb @L3.oGt_int @L3.oGe_int) (zb @L3.oIx_tup @L3.oIx_lst)) (zb (zb @L3.oIx_scr @L3.sMt_ap) (zb @L3.mAppend_ok @L3.sz0))) (zb (zb (zb @L3.sz1 @L3.sz2) (zb @L3.sz3 @L3.sz4)) (zb (zb @L3.sz5 @L3.gb.eq_1) (zb @Int.cast_ofNat_Int @Ce))))))):=(zb (zb (zb (zb (zb (zb @L3.fun3.eq_1 (zb @L3.start3.eq_1 @L3.sSeq.eq_1)) (zb (zb @L3.sSet.eq_1 @L3.sRet.eq_1) (zb @L3.sRetS.eq_1 @L3.sRetN.eq_1))) (zb (zb (zb @L3.sIf.eq_1 @L3.sExp.eq_1) (zb @L3.sFz.eq_1 @L3.sAug.eq_1)) (zb (zb @L3.sAsg.eq_1 @L3.sSkip.eq_1) (zb @L3.sNever.eq_1 @L3.gN.eq_1)))) (zb (zb (zb @L3.eV.eq_1 (zb @L3.eC.eq_1 @L3.pV.eq_1)) (zb (zb @L3.pE.eq_1 @L3.eOp.eq_1) (zb @L3.eNeg.eq_1 @L3.eNot.eq_1))) (zb (zb (zb @L3.eAnd.eq_1 @L3.eOr.eq_1) (zb @L3.eIf.eq_1 @L3.eChain.eq_1)) (zb (zb @L3.oEq_int @L3.oNe_int) (zb @L3.nx_ite @L3.rt_ite))))) (zb (zb (zb (zb @L3.ok_ite (zb @L3.cons_ite @L3.some_ite)) (zb (zb @L3.v_ite @L3.int_ite) (zb @L3.bl_ite @ite_self.{1}))) (zb (zb (zb @B0 @and_true) (zb @true_and @and_self)) (zb (zb @L3.eTup.eq_1 @L3.eLst.eq_1) (zb @L3.aCons.eq_1 @L3.aNil.eq_1)))) (zb (zb (zb (zb @L3.eB.eq_1 @L3.isa.eq_1) (zb @L3.eCall.eq_1 @L3.tE.eq_1)) (zb (zb @L3.tP.eq_1 @L3.tTru.eq_1) (zb @L3.tAnd3.eq_1 @L3.tOr3.eq_1))) (zb (zb (zb @L3.tNot3.eq_1 @L3.mtO.eq_1) (zb @L3.at0 @L3.at1)) (zb (zb @L3.at2 @L3.at3) (zb @L3.at4 @Ao.{0,0})))))) (zb (zb (zb (zb (zb @Bp.{0,0} (zb @A4.{0} @List.length_nil.{0})) (zb (zb @List.cons_append.{0} @Bz.{0}) (zb @Ca.{0} @Cu.{0}))) (zb (zb (zb @Cw.{0} @List.getElem?_nil.{0}) (zb @List.set_cons_zero.{0} @List.set_cons_succ.{0})) (zb (zb @A0.{0,0} @Option.map_none.{0,0}) (zb @Cv.{0,0} @Nat.zero_add)))) (zb (zb (zb @ite_true.{1} (zb @ite_false.{1} @Bh.{1})) (zb (zb @Bs.{1} @Ck) (zb @Bool.not_false @decide_true))) (zb (zb (zb @decide_false @Bool.true_and) (zb @Co @Bool.or_true)) (zb (zb @Cc @Bool.true_or) (zb @Bool.false_or @Ct.{0}))))) (zb (zb (zb (zb @or_true (zb @true_or @Bk)) (zb (zb @false_or @L3.oAdd_int) (zb @L3.oAddI_int @L3.oSub_int))) (zb (zb (zb @L3.oMul_int @L3.oDiv_int) (zb @L3.oMod_int @L3.oShr_int)) (zb (zb @L3.oPow_int @L3.oAndI_int) (zb @L3.oLt_int @L3.oLe_int)))) (zb (zb (zb (zb @L3.oGt_int @L3.oGe_int) (zb @L3.oIx_tup @L3.oIx_lst)) (zb (zb @L3.oIx_scr @L3.sMt_ap) (zb @L3.mAppend_ok @L3.sz0))) (zb (zb (zb @L3.sz1 @L3.sz2) (zb @L3.sz3 @L3.sz4)) (zb (zb @L3.sz5 @L3.gb.eq_1) (zb @Int.cast_ofNat_Int @Ce)))))))
end L3
local macro_rules | `(tactic| simp![$xs,*] $[$l]?)=> `(tactic| simp only[L3.kJ,L3.fun3,L3.start3,L3.O3.res,L3.sSeq,L3.sSet,L3.sRet,L3.sRetS,L3.sRetN,L3.sIf,L3.sExp,L3.sFz,L3.sAug,L3.sAsg,L3.sSkip,L3.sNever,L3.gN,L3.gT,L3.gL,L3.gsCons,L3.gsNil,L3.eV,L3.eC,L3.pV,L3.pE,L3.eOp,L3.eNeg,L3.eNot,L3.eAnd,L3.eOr,L3.eIf,L3.eChain,L3.oEq_int,L3.oNe_int,L3.nx_ite,L3.rt_ite,L3.ok_ite,L3.cons_ite,L3.some_ite,L3.v_ite,L3.int_ite,L3.bl_ite,ite_self,B0,and_true,true_and,and_self,L3.oIsN,L3.eTup,L3.eLst,L3.aCons,L3.aNil,L3.vals3,L3.eB,L3.bLen,L3.bMax,L3.bMin,L3.bMin3,L3.bInt,L3.bList,L3.bIsT,L3.ty3,L3.isa,L3.eCall,L3.opt,L3.Res.bind,L3.Res.bindS,L3.Vl.fz,L3.C3.fz,L3.tE,L3.tP,L3.tru3,L3.tTru,L3.tAnd3,L3.tOr3,L3.tNot3,L3.rdl,L3.rdm,L3.mtO,L3.wr3,L3.at0,L3.at1,L3.at2,L3.at3,L3.at4,Ao,Bp,A4,List.length_nil,List.replicate,List.cons_append,Bz,Ca,Cu,Cw,List.getElem?_nil,List.set_cons_zero,List.set_cons_succ,A0,Option.map_none,Cv,Nat.reduceSub,Nat.reduceAdd,Nat.reduceLT,Nat.reduceEqDiff,Nat.reduceLeDiff,Nat.zero_add,reduceIte,ite_true,ite_false,Bh,Bs,Ck,Bool.not_false,decide_true,decide_false,Bool.true_and,Co,Bool.or_true,Cc,Bool.true_or,Bool.false_or,Ct,String.reduceEq,String.reduceBEq,or_true,true_or,Bk,false_or,reduceCtorEq,Int.reduceLT,Int.reduceLE,Int.reduceNeg,L3.oAdd_int,L3.oAddI_int,L3.oSub_int,L3.oMul_int,L3.oDiv_int,L3.oMod_int,L3.oShr_int,L3.oPow_int,L3.oAndI_int,L3.oLt_int,L3.oLe_int,L3.oGt_int,L3.oGe_int,L3.oIx_tup,L3.oIx_lst,L3.oIx_scr,L3.sMt_ap,L3.mAppend_ok,L3.sz0,L3.sz1,L3.sz2,L3.sz3,L3.sz4,L3.sz5,L3.gb,Int.cast_ofNat_Int,Int.reduceEq,Ce,$xs,*] $[$l]?)
namespace L3
open PySem L2
def tx (l:List Nat):Str:=⟨l.toArray⟩
def z4 (l:List Nat):(tx l).length=l.length:=by simp[tx,Str.length]
def Dh (l:List Nat):(tx l).cps.toList=l:=by simp[tx]
def NM (z:Str):tx z.cps.toList=z:=by simp[tx]
def Gz {a b:List Nat} (h:tx a=tx b):a=b:=by have:=congrArg (fun z:Str=>z.cps.toList) h;simpa[tx] using this
def CD (a b:List Nat):tx a++tx b=tx (a++b):=by
 show Str.append (tx a) (tx b)=_;simp[Str.append,tx]
def yD (c:Nat):Bool:=decide (97<=c) && decide (c<=122)
def yC (c:Nat):Bool:=decide (48<=c) && decide (c<=57)
def abc:List Nat:=[97,98,99,100,101,102,103,104,105,106,107,108,109,110,111,112,113,114,115,116,117,118,119,120,121,122]
def abc9:List Nat:=abc++[48,49,50,51,52,53,54,55,56,57]
def Jv:("abcdefghijklmnopqrstuvwxyz" :Str)=tx abc:=by decide+kernel
def NN:("abcdefghijklmnopqrstuvwxyz0123456789" :Str)=tx abc9:=by decide+kernel
def NO:("" :Str)=tx []:=by decide+kernel
def NP (c:Nat):decide (c∈abc)=yD c:=by
 by_cases h:c<128
 .exact (by decide+kernel:∀c,c<128->decide (c∈abc)=yD c) c h
 .rw[As fun m=>h ((by decide+kernel:∀x∈abc,x<128) c m)]
  unfold yD;rw[As (p:=c<=122) (by lia),C1]
def NQ (c:Nat):decide (c∈abc9)=(yD c || yC c):=by
 by_cases h:c<128
 .exact (by decide+kernel:∀c,c<128->decide (c∈abc9)=(yD c || yC c)) c h
 .rw[As fun m=>h ((by decide+kernel:∀x∈abc9,x<128) c m)]
  unfold yD yC;rw[As (p:=c<=122) (by lia),As (p:=c<=57) (by lia),C1,C1,Cc]
def G0 {s:S3} {h:H3} {c:Nat} {l:List Nat}:oInS false s h (.x (.str (tx [c]))) (.x (.str (tx l)))=some (.v (.bl (decide (c∈l)))):=by
 unfold oInS;simp only[Ce,Bs];rw[show (tx [c])=⟨#[c]⟩ from rfl,LZ,Dh]
def DL {s:S3} {h:H3} {l:List Nat} {i:Int} (hl:l.length<=sizeLine):yk s h (.x (.str (tx l))) (.x (.int i))=(atI l i).map fun c=>.v (.str (tx [c])):=by
 unfold yk yW oIxT oIxL oIxS;simp only[rdl,z4,Dh,Aa hl];cases atI l i<;>rfl
def yE (l:List Nat):Bool:=decide (1<=l.length) && decide (l.length<=8) && (yD (l.headD 0) && l.all fun c=>yD c || yC c)
end L3
namespace L3
open PySem PySem.Spec PyProof.Rows
open PySem.Builtin.Str (occurrences strSub subAt partsBetween)
open PySem.StrLaws (At ChainG partsFrom)
def jn (s:List Nat):List (List Nat)->List Nat
 | []=>[]
 | [l]=>l
 |l::r=>l++s++jn s r
def CF {s l:List Nat} {r:List (List Nat)} (h:r≠[]):jn s (l::r)=l++s++jn s r:=by
 cases r with
 |nil=>exact absurd rfl h
 |cons a b=>rfl
def NR (s:List Nat) (ls:List (List Nat)):PySem.Txt.join (tx s) (ls.map tx)=tx (jn s ls):=by
 show Builtin.Str.glued (tx s) (ls.map tx)=_;rw[PySem.StrLaws.glued_eq_join]
 induction ls with
 |nil=>rfl
 |cons l r ih=>
  cases r with
  |nil=>rfl
  |cons a b=>
   rw[CF (by simp)]
   show tx l++tx s++Str.join (tx s) ((a::b).map tx)=_;rw[ih,CD,CD]
def DM (x:List Nat) (i j:Nat):strSub (tx x) i j=tx ((x.drop i).take (j-i)):=by
 show (⟨(x.toArray).extract i j⟩:Str)=⟨_⟩
 congr 1
 simp[List.extract_eq_drop_take]
def at_tx {x y:List Nat} {i:Nat}:At (tx x) (tx y) (tx x).length i↔i+y.length<=x.length/\(x.drop i).take y.length=y:=by
 have e:(tx x).length=x.length:=by show x.toArray.size=_;simp
 have e2:(tx y).length=y.length:=by show y.toArray.size=_;simp
 unfold PySem.StrLaws.At;rw[e,e2]
 refine and_congr_right fun _=>?_
 show ((x.toArray).extract i (i+(tx y).length)==y.toArray)=true↔_;rw[e2,beq_iff_eq,<-Array.toList_inj];simp[List.extract_eq_drop_take]
theorem Jw {s0:Nat} {s':List Nat} {x:List Nat} {f:Nat} (hf:∀k,f<=k->¬At (tx x) (tx (s0::s')) (tx x).length k):∀(ls:List (List Nat)) (pre:List Nat) (cuts:List Nat),ls≠[]->(∀p∈ls,s0∉p)->x=pre++jn (s0::s') ls->
  ChainG (tx x) (tx (s0::s')) (tx x).length pre.length cuts f->partsFrom (tx x) (tx (s0::s')).length pre.length cuts=ls.map tx
 | [],_,_,h,_,_,_=>absurd rfl h
 |p::r,pre,cuts,_,hp,hx,hc=>by
  have hp0:s0∉p:=hp p Ak;have low:∀t:List Nat,x=pre++p++t->∀k,pre.length<=k->k<pre.length+p.length->¬At (tx x) (tx (s0::s')) (tx x).length k:=fun t ht k h1 h2 hA=>by
   obtain⟨_,e⟩:=at_tx.mp hA;have e0:(x.drop k)[0]? =some s0:=by
    have:=congrArg (fun l:List Nat=>l[0]?) e
    simpa[List.getElem?_take] using this
   rw[List.getElem?_drop,Nat.add_zero,ht,B5,Bg h1,Az (by lia)]at e0
   exact hp0 (Aj e0)
  by_cases hr:r=[]
  .subst hr
   have hx1:x=pre++p++[]:=by rw[hx];simp[jn]
   cases cuts with
   |cons c r=>
    obtain⟨a1,a2,a3,_⟩:=hc;have b:=(at_tx.mp a2).1;have lx:x.length=pre.length+p.length:=by rw[hx1];simp
    have:(s0::s').length=s'.length+1:=rfl;exact absurd a2 (low [] hx1 c a1 (by lia))
   |nil=>
    show [strSub (tx x) pre.length (tx x).length]=[tx p];rw[DM,z4,hx1];simp
  .rw[CF hr]at hx
   have hx1:x=pre++p++(s0::s'++jn (s0::s') r):=by rw[hx];simp
   have here:At (tx x) (tx (s0::s')) (tx x).length (pre.length+p.length):=at_tx.mpr ⟨by rw[hx1];simp;lia,by
    rw[hx1,B5,<-B5,Dc (by simp),List.drop_of_length_le (by simp),Bz]
    simp⟩
   cases cuts with
   |nil=>
    have hc:f=pre.length:=hc;exact absurd here (hf _ (by lia))
   |cons c cs=>
    obtain⟨a1,a2,a3,a4⟩:=hc;have ec:c=pre.length+p.length:=by
     rcases Nat.lt_trichotomy c (pre.length+p.length) with h|h|h
     .exact absurd a2 (low _ hx1 c a1 h)
     .exact h
     .exact absurd here (a3 _ (by lia) h)
    subst ec;show strSub (tx x) pre.length (pre.length+p.length)::partsFrom _ _ _ cs=tx p::r.map tx;have e1:strSub (tx x) pre.length (pre.length+p.length)=tx p:=by
     rw[DM,hx1,B5,Dc (Ac _),B1,Bz,Nat.add_sub_cancel_left,List.take_append_of_le_length (Ac _),List.take_length]
    have lp:pre.length+p.length+(tx (s0::s')).length=(pre++p++(s0::s')).length:=by rw[z4];simp;lia
    rw[e1]
    congr 1
    rw[lp]at a4 ⊢;exact Jw hf r (pre++p++(s0::s')) cs hr (fun q hq=>hp q (Ap _ hq)) (by rw[hx1];simp) a4
def Jx {x:List Nat} (h:∀c∈x,c<256):Builtin.Str.strKind (tx x)=1:=by
 unfold Builtin.Str.strKind;rw[Aa];rw[Array.all_eq_true_iff_forall_mem];intro c hc;have:c∈x:=by simpa[tx] using hc
 simpa using h c this
theorem GA {s:List Nat} {c:Nat}:∀{ls:List (List Nat)},c∈jn s ls->c∈s\/∃p∈ls,c∈p
 | [],h=>by cases h
 | [l],h=>.inr ⟨l,Ak,h⟩
 |l::a::r,h=>by
  rw[CF (by simp),Aq,Aq]at h
  rcases h with (h|h)|h
  .exact .inr ⟨l,Ak,h⟩
  .exact .inl h
  .rcases GA h with h|⟨p,hp,h⟩
   .exact .inl h
   .exact .inr ⟨p,Ap _ hp,h⟩
def NS {s0:Nat} {s':List Nat} {ls:List (List Nat)} (hne:ls≠[]) (hf:∀p∈ls,s0∉p) (hk:∀p∈ls,∀c∈p,c<256) (hs:∀c∈s0::s',c<256):PySem.Txt.split (tx (jn (s0::s') ls)) (tx (s0::s'))=ls.map tx:=by
 have kx:Builtin.Str.strKind (tx (jn (s0::s') ls))=1:=Jx fun c hc=>by
  rcases GA hc with h|⟨p,hp,h⟩
  .exact hs c h
  .exact hk p hp c h
 obtain⟨f,hc,hfree⟩:=PySem.StrLaws.occ_tight (tx (jn (s0::s') ls)) (tx (s0::s')) (by rw[z4];simp)
 have key:=Jw hfree ls [] _ hne hf (by simp) hc
 unfold PySem.Txt.split;rw[kx,Jx hs,z4,z4]
 by_cases hl:(jn (s0::s') ls).length<(s0::s').length
 .rw[Aa (by rw[Bq hl];rfl)]
  match ls,hne,hl with
  | [l],_,_=>rfl
  |l::a::r,_,hl=>
   rw[CF (by simp)]at hl
   simp at hl;lia
 .rw[Ab (by rw[As hl];decide)]
  rw[z4]at key;cases ho:occurrences (tx (jn (s0::s') ls)) (tx (s0::s')) 0 (jn (s0::s') ls).length ((jn (s0::s') ls).length+1) with
  |nil=>
   rw[Aa (show ([]:List Nat).isEmpty=true from rfl)]
   rw[z4,ho]at key;have:partsFrom (tx (jn (s0::s') ls)) (s0::s').length ([]:List Nat).length []=[tx (jn (s0::s') ls)]:=by
    show [strSub _ _ _]=_;rw[DM,z4];simp
   rw[this]at key;exact key
  |cons c cs=>
   rw[Ab (by simp)]
   rw[z4,ho]at key;rw[PySem.StrLaws.partsBetween_eq];exact key
def NT {a b:List Nat} {c:Nat} (h:c∉a):PySem.Txt.partition (tx (a++c::b)) (tx [c])=(tx a,tx [c],tx b):=by
 have here:At (tx (a++c::b)) (tx [c]) (tx (a++c::b)).length a.length:=at_tx.mpr ⟨by simp,by simp⟩
 have low:∀k,k<a.length->¬At (tx (a++c::b)) (tx [c]) (tx (a++c::b)).length k:=fun k hk hA=>by
  obtain⟨_,e⟩:=at_tx.mp hA;have e0:=congrArg (fun l:List Nat=>l[0]?) e
  simp only[Cq,List.getElem?_take,List.getElem?_drop,Nat.add_zero,Az hk]at e0
  exact h (Aj (by simpa using e0))
 unfold PySem.Txt.partition
 rcases PySem.StrLaws.occ_head (tx (a++c::b)) (tx [c]) 1 (Ac _) with ⟨h1,h2⟩|⟨i,r,h1,h2,h3⟩
 .exact absurd here (h2 _)
 .have ei:i=a.length:=by
   rcases Nat.lt_trichotomy i a.length with q|q|q
   .exact absurd h2 (low i q)
   .exact q
   .exact absurd here (h3 _ q)
  subst ei;rw[h1];show (strSub _ 0 a.length,tx [c],strSub _ (a.length+(tx [c]).length) _)=_;rw[DM,DM,z4,z4];have e1:((a++c::b).drop 0).take (a.length-0)=a:=by simp
  have e2:((a++c::b).drop (a.length+[c].length)).take ((a++c::b).length-(a.length+[c].length))=b:=by
   rw[show a++c::b=(a++[c])++b by simp,show a.length+[c].length=(a++[c]).length by simp,Dc (Ac _),B1,Bz]
   exact List.take_of_length_le (by simp;lia)
  rw[e1,e2]
def dg (m:Nat):List Nat:=(Nat.toDigits 10 m).map Char.toNat
def NU (m:Nat):Str.ofString (toString ((m:Nat):Int))=tx (dg m):=by
 rw[<-NM (Str.ofString (toString ((m:Nat):Int))),PySem.W.KIN.signs_num];rfl
def EE {m:Nat} (h:m<10):dg m=[48+m]:=by
 unfold dg;rw[Nat.toDigits_of_lt_base h];have:∀d:Nat,d<10->[Nat.digitChar d].map Char.toNat=[48+d]:=by decide
 exact this m h
def Jy {m:Nat} (h:10<=m):dg m=dg (m / 10)++[48+m%10]:=by
 have hm:m%10<10:=Nat.mod_lt m (by decide)
 have t:Nat.toDigits 10 (m / 10)++Nat.toDigits 10 (m%10)=Nat.toDigits 10 (10*(m / 10)+m%10):=Nat.toDigits_append_toDigits (by decide) (by lia) hm
 rw[Nat.div_add_mod]at t;show (Nat.toDigits 10 m).map Char.toNat=_;rw[<-t,A9];show dg (m / 10)++dg (m%10)=_;rw[EE hm]
def EF (m:Nat):(∀c∈dg m,48<=c/\c<=57)/\(∃a r,dg m=a::r/\(a=48->m=0)):=by
 induction m using Nat.strongRecOn with
 |_ m ih=>
  by_cases h:m<10
  .rw[EE h]
   exact⟨fun c hc=>by rw[A2]at hc;lia,48+m,[],rfl,fun e=>by lia⟩
  .obtain⟨h1,a,r,e,h2⟩:=ih (m / 10) (by lia)
   rw[Jy (by lia)]
   refine⟨fun c hc=>?_,a,r++[48+m%10],by rw[e];rfl,fun q=>by have:=h2 q;lia⟩
   rcases Aq.mp hc with hc|hc
   .exact h1 c hc
   .rw[A2]at hc;lia
theorem Jz:∀(k m:Nat),m<10 ^ (k+1)->(dg m).length<=k+1
 |0,m,h=>by rw[EE (by lia)];exact Ac _
 |k+1,m,h=>by
  by_cases q:m<10
  .rw[EE q];simp
  .rw[Jy (by lia),Ar]
   have:=Jz k (m / 10) (by rw[Nat.pow_succ]at h;lia)
   simp;lia
def NV (m:Nat):PySem.NumText.digitsVal (dg m)=m:=PySem.W.KIN.val_back m
def NW {m:Nat} (h:(dg m).length<=4300):PySem.intText? (tx (dg m))=some ((m:Nat):Int):=by
 obtain⟨h1,a,r,e,_⟩:=EF m;have:=PySem.intText_digits (x:=tx (dg m)) (by rw[Dh];exact h1) (by rw[Dh,e];simp) (by rw[z4];exact h)
 rw[Dh,NV]at this;exact this
def NX:Str.ofString (toString (-1:Int))=tx [45,49]:=by decide+kernel
end L3
namespace L3
open PySem L2
def BP {α:Type} {n:Nat} {fr:List Nat} {p:P3} {g:G3} {e:E3} {s:S3} {h:H3} {x:V3} {ok:H3->Prop} {enc:α->V3} {l:List α} (I:S3->Prop) (f:α->V3) (ep:p s h=.ok (.x x) h)
  (hw:yM h x=some (l.map enc,ok)) (hl:l.length<=1000000) (h0:I (z7 n fr s)) (step:∀a s,a∈l->I s->∃s1 r,g (enc a) s=some s1/\I s1/\e s1 h=.ok r h/\r.fz=some (f a)):
  ye n fr (iL p) g tTru e s h=.ok (.m (.lst (l.map f))) h:=by
 have:=Fj (ok:=ok) (g:=g) (e:=e) (h:=h) I enc f (Dw hw).1 (l:=l) (by have:=yw;lia) step h0
 unfold ye iL;simp only[ep,Res.bind,hw,this]
def J0 {n:Nat} {fr:List Nat} {p:P3} {g:G3} {e:E3} {s:S3} {h:H3} {l:List Nat} (I:S3->Prop) (f:Nat->V3) (ep:p s h=.ok (.x (.str (tx l))) h) (hl:l.length<=1000000)
  (h0:I (z7 n fr s)) (step:∀a s,a∈l->I s->∃s1 r,g (.str (tx [a])) s=some s1/\I s1/\e s1 h=.ok r h/\r.fz=some (f a)):
  ye n fr (iS p) g tTru e s h=.ok (.m (.lst (l.map f))) h:=by
 have:=Fj (ok:=fun _=>True) (g:=g) (e:=e) (h:=h) I (fun a:Nat=>V3.str (tx [a])) f trivial (l:=l) (by have:=yw;lia) step h0
 have hl2:(tx l).length<=sizeLine:=by rw[z4];have:=yw;lia
 unfold ye iS;simp only[ep,Res.bind,Aa hl2,Dh]
 first
  | (simp only[show ∀a:Nat,(⟨#[a]⟩:Str)=tx [a] from fun _=>rfl,this])
  | (rw[show (l.map fun c=>V3.str ⟨#[c]⟩)=l.map (fun a=>V3.str (tx [a])) from rfl,this])
def GB {s:S3} {h:H3} {q:List Bool->Bool} {bs:List Bool}:bAll q s h [.x (.lst (bs.map .bl))]=some (.v (.bl (q bs))):=by
 unfold bAll;simp only[rdl,MF,A0]
abbrev zL (p:Int×Int):V3:= .tup [.int p.1,.int p.2]
def NY {ok:H3->Prop} {g:G3} {b:D3} (I:Nat->S3->H3->Prop) {xs:List V3} {s:S3} {h:H3} (hok:∀i s h,I i s h->ok h) (h0:I 0 s h)
  (step:∀(i:Nat) x s h,xs[i]? =some x->I i s h->∃s1 s2 h2,g x s=some s1/\b s1 h=.nx s2 h2/\I (i+1) s2 h2):∃s' h',zC ok g b xs s h=.nx s' h'/\I xs.length s' h':=by
 have gen:∀(n i:Nat) (s:S3) (h:H3),n=xs.length-i->i<=xs.length->I i s h->∃s' h',zC ok g b (xs.drop i) s h=.nx s' h'/\I xs.length s' h':=by
  intro n
  induction n with
  |zero=>
   intro i s h hn hi hI;have:i=xs.length:=by lia
   subst this;rw[B1];unfold zC;rw[Aa (hok _ _ _ hI)];exact⟨s,h,rfl,hI⟩
  |succ n ih=>
   intro i s h hn hi hI;have hlt:i<xs.length:=by lia
   rw[Cg hlt];unfold zC;rw[Aa (hok _ _ _ hI)];obtain⟨s1,s2,h2,hg,hb,hI2⟩:=step i xs[i] s h (z8 hlt) hI;simp only[hg,hb];exact ih (i+1) s2 h2 (by lia) hlt hI2
 exact gen _ 0 s h rfl (By _) h0
def GC {α:Type} {it:I3} {g:G3} {b:D3} {s:S3} {h:H3} {its:List V3} {ok:H3->Prop} {enc:α->V3} {l:List α} (ei:it s h=.ok ⟨its,l.map enc,ok⟩ h)
  (I:Nat->S3->H3->Prop) (hok:∀i s h,I i s h->ok h) (h0:I 0 s h) (step:∀(i:Nat) a s h,l[i]? =some a->I i s h->∃s2 h2,gb g b (enc a) s h=.nx s2 h2/\I (i+1) s2 h2):∃s' h',zx it g b s h=.nx s' h'/\I l.length s' h':=by
 have hf:zx it g b s h=zC ok g b (l.map enc) s h:=by
  unfold zx;simp only[ei,Res.bindS]
 rw[hf];have:=NY (ok:=ok) (g:=g) (b:=b) I (xs:=l.map enc) (s:=s) (h:=h) hok h0 fun i x s h hx hI=>by
  rw[A8]at hx;obtain⟨a,ha,rfl⟩:=Cr.1 hx;obtain⟨s2,h2,e,hI2⟩:=step i a s h ha hI;unfold gb at e;cases q:g (enc a) s with
  |none=>rw[q]at e;cases e
  |some s1=>rw[q]at e;exact⟨s1,s2,h2,rfl,e,hI2⟩
 rwa [Ad]at this
def NZ {a:A3} {s:S3} {h:H3} {j:Int} (ea:a s h=.ok [.x (.int j)] h) (hj: -(2 ^ 62)<=j/\j<2 ^ 62):iR1 a s h=.ok ⟨[],(List.range j.toNat).map fun k=>.int ((k:Nat):Int),fun _=>True⟩ h:=by
 unfold iR1;simp only[ea,Res.bind,Aa hj,Int.zero_add]
def Is (h:H3) (r:Vl) (R:Res Vl):Prop:=R=.ok r h
def Yes (R:Res Vl):Prop:=∃h',R=.ok (.v (.bl true)) h'
def CG {α β:Type} {l:List α} {f:α->β}:(l.map f).isEmpty=l.isEmpty:=by cases l<;>rfl
def Oa {α:Type} {l:List α} {i:Nat} {a:α} (h:l[i]? =some a):l.drop i=a::l.drop (i+1):=by
 obtain⟨hi,rfl⟩:=Av.1 h;exact Cg hi
def Ob {α:Type} {l:List α} {i:Nat} {a:α} (h:l[i]? =some a):l.take (i+1)=l.take i++[a]:=by rw[List.take_add_one,h];rfl
def Oc {α:Type} (xs:List α) (k:Nat):zH xs none (some (k:Int))=xs.take k:=by
 unfold zH HT.sIx;have h1: ¬((k:Int)<0):=by lia
 simp only[Ab h1,Cm,List.drop_zero,Nat.sub_zero];rw[List.take_eq_take_iff];lia
theorem GD {f:V3->V3->Option Bool}:∀{xs:List V3},(∀x∈xs,f x x=some true)->yI f xs xs=some true
 | [],_=>rfl
 |x::r,h=>by simp only[yI,h x Ak,GD (xs:=r) fun y hy=>h y (Ap _ hy),Bool.and_self]
def Od {s:S3} {h:H3} {f g:Rf} {xs:List V3} (hf:rdm s h f=some xs) (hg:rdm s h g=some xs) (hx:∀x∈xs,zX h 8 x x=some true):yJ s h f g=some true:=by
 unfold yJ;rw[hf,hg];simp only[Bh,GD hx]
def J1 {s:S3} {h:H3} {f g:Rf} {xs:List V3} (hf:rdm s h f=some xs) (hg:rdm s h g=some xs) (hx:∀x∈xs,zX h 8 x x=some true):yf s h f g=some (.v (.bl false)):=by
 unfold yf;rw[Od hf hg hx];rfl
def Oe {h:H3} {n:Nat} {xs:List V3} (hx:∀x∈xs,zX h n x x=some true):zX h (n+1) (.tup xs) (.tup xs)=some true:=by
 simp only[zX,yK];rw[GD hx];simp
def CH {s:S3} {h:H3} {i j:Str}:yd s h (.x (.str i)) (.x (.str j))=some (.v (.bl (decide (i=j)))):=by
 unfold yd yJ;simp only[rdm,rdl,Fl,A0]
def GE {s:S3} {h:H3} {i j:Str}:yf s h (.x (.str i)) (.x (.str j))=some (.v (.bl (!decide (i=j)))):=by
 unfold yf yJ;simp only[rdm,rdl,Fl,A0]
def Of {s:S3} {h:H3} {f:Rf} {xs:List V3} (hf:rdm s h f=some xs):yJ s h f (.x (.lst []))=some xs.isEmpty:=by
 unfold yJ;rw[hf];simp only[rdm,rdl];cases xs<;>rfl
def Og {s:S3} {h:H3} {f:Rf} {xs:List V3} (hf:rdm s h f=some xs):yd s h f (.x (.lst []))=some (.v (.bl xs.isEmpty)):=by unfold yd;rw[Of hf];rfl
def ch (i:Int):Nat:=abc9.getD i.toNat 0
def Oh {i:Int} (h0:0<=i) (h1:i<36):atI abc9 i=some (ch i):=by
 obtain⟨n,rfl⟩:=B7 h0;have hn:n<abc9.length:=by show n<36;lia
 refine AJ (j:=n) ?_
 rw[z8 hn];unfold ch;rw[C2,Cm,z8 hn];rfl
def Oj {i:Int} (h0:0<=i) (h1:i<26):atI abc i=some (ch i):=by
 obtain⟨n,rfl⟩:=B7 h0;have hn:n<abc.length:=by show n<26;lia
 have hn9:n<abc9.length:=by show n<36;lia
 refine AJ (j:=n) ?_
 unfold ch;rw[C2,Cm];unfold abc9;rw[Az hn,z8 hn];rfl
def Ol (x:Int):atI abc9 (x%36)=some (ch (x%36)):=Oh (by lia) (by lia)
def Om (x:Int):atI abc (x%26)=some (ch (x%26)):=Oj (by lia) (by lia)
def J2:∀n:Nat,n<36->(yD (ch n) || yC (ch n))=true:=by decide
def On:∀n:Nat,n<26->yD (ch n)=true:=by decide
def Oo {Q:Res Vl->Prop} {ok:H3->Prop} {g:G3} {b r:D3} {α:Type} {enc:α->V3} {l:List α} (I:Nat->S3->H3->Prop) (hok:∀i s h,I i s h->ok h)
  (step:∀(i:Nat) a s h,l[i]? =some a->I i s h->(∃s2 h2,(gb g b (enc a) s h=.nx s2 h2\/gb g b (enc a) s h=.ct s2 h2)/\I (i+1) s2 h2)\/(∃v h2,gb g b (enc a) s h=.rt v h2/\Q (.ok v h2))\/∃s2 h2,gb g b (enc a) s h=.bk s2 h2/\Q ((r s2 h2).res))
  (k:∀s' h',I l.length s' h'->Q ((r s' h').res)):∀(n i:Nat) (s:S3) (h:H3),l.length-i=n->i<=l.length->I i s h->Q ((match zC ok g b ((l.drop i).map enc) s h with | .nx s h=>r s h|o=>o).res):=by
 intro n
 induction n with
 |zero=>
  intro i s h hn hi hI;have e:i=l.length:=by lia
  subst e;rw[B1,Bp];unfold zC;rw[Aa (hok _ _ _ hI)];exact k s h hI
 |succ n ih=>
  intro i s h hn hi hI;have hil:i<l.length:=by lia
  rw[Oa (z8 hil),Ao];unfold zC;rw[Aa (hok _ _ _ hI)];have st:=step i l[i] s h (z8 hil) hI;unfold gb at st;cases q:g (enc l[i]) s with
  |none=>simp only[q]at st;rcases st with ⟨_,_,z|z,_⟩|⟨_,_,z,_⟩|⟨_,_,z,_⟩<;>cases z
  |some s1=>
   simp only[q]at st ⊢
   rcases st with ⟨s2,h2,z|z,hI2⟩|⟨v,h2,z,hq⟩|⟨s2,h2,z,hq⟩
   .rw[z];exact ih (i+1) s2 h2 (by lia) hil hI2
   .rw[z];exact ih (i+1) s2 h2 (by lia) hil hI2
   .rw[z];exact hq
   .rw[z];exact hq
def it_E {Q:Res Vl->Prop} {α:Type} {it:I3} {g:G3} {b r:D3} {s:S3} {h:H3} {its:List V3} {ok:H3->Prop} {enc:α->V3} {l:List α} (ei:it s h=.ok ⟨its,l.map enc,ok⟩ h)
  (I:Nat->S3->H3->Prop) (hok:∀i s h,I i s h->ok h) (h0:I 0 s h)
  (step:∀(i:Nat) a s h,l[i]? =some a->I i s h->(∃s2 h2,(gb g b (enc a) s h=.nx s2 h2\/gb g b (enc a) s h=.ct s2 h2)/\I (i+1) s2 h2)\/(∃v h2,gb g b (enc a) s h=.rt v h2/\Q (.ok v h2))\/∃s2 h2,gb g b (enc a) s h=.bk s2 h2/\Q ((r s2 h2).res))
  (k:∀s' h',I l.length s' h'->Q ((r s' h').res)):Q ((sSeq (zx it g b) r s h).res):=by
 have:=Oo (Q:=Q) (r:=r) I hok step k _ 0 s h rfl (By _) h0;unfold sSeq zx;simp only[ei,Res.bindS];rw[List.drop_zero]at this;exact this
end L3
namespace L3
open PySem PySem.Spec PyProof.Rows L2
def EG {α:Type} {n:Nat} {fr:List Nat} {it:I3} {g:G3} {e:E3} {s:S3} {h:H3} {its:List V3} {ok:H3->Prop} {enc:α->V3} {l:List α} (I:S3->Prop) (f:α->V3) (ei:it s h=.ok ⟨its,l.map enc,ok⟩ h) (hok:ok h) (hl:l.length<=1000000)
  (h0:I (z7 n fr s)) (step:∀a s,a∈l->I s->∃s1 r,g (enc a) s=some s1/\I s1/\e s1 h=.ok r h/\r.fz=some (f a)):ye n fr it g tTru e s h=.ok (.m (.lst (l.map f))) h:=by
 have:=Fj (ok:=ok) (g:=g) (e:=e) (h:=h) I enc f hok (l:=l) (by have:=yw;lia) step h0
 unfold ye;simp only[ei,Res.bind,this]
def Oq {α:Type} {n:Nat} {fr:List Nat} {it:I3} {g:G3} {c:T3} {e:E3} {s:S3} {h:H3} {its:List V3} {ok:H3->Prop} {enc:α->V3} {l:List α} (I:S3->Prop) (q:α->Bool) (f:α->V3) (ei:it s h=.ok ⟨its,l.map enc,ok⟩ h) (hok:ok h) (hl:l.length<=1000000)
  (h0:I (z7 n fr s)) (step:∀a s,a∈l->I s->∃s1,g (enc a) s=some s1/\I s1/\c s1 h=.ok (q a) h/\(q a=true->∃r,e s1 h=.ok r h/\r.fz=some (f a))):ye n fr it g c e s h=.ok (.m (.lst ((l.filter q).map f))) h:=by
 have:=ME (ok:=ok) (g:=g) (c:=c) (e:=e) (h:=h) I enc q f hok (l:=l) (by have:=yw;lia) step h0
 unfold ye;simp only[ei,Res.bind,this]
end L3
namespace My
open PySem L2 L3
inductive Wd where
 |n (i:Int)
 |t (l:List Nat)
abbrev Wd.enc:Wd->V3
 |.n i=>.int i
 |.t l=>.str (tx l)
def it (i:Int):List Nat:=if i= -1 then [45,49] else dg i.toNat
def Wd.tx:Wd->List Nat
 |.n i=>it i
 |.t l=>l
def Wd.Ok:Wd->Prop
 |.n i=> -1<=i/\i<10 ^ 11
 |.t l=>yE l=true
abbrev zQ:=List Wd
abbrev zd (r:zQ):V3:= .tup (r.map Wd.enc)
def zB (a:List Nat) (r:zQ):List Nat:=jn a (r.map Wd.tx)
def zN (a b:List Nat) (rs:List zQ):List Nat:=if rs.isEmpty then [45] else jn b (rs.map (zB a))
def J3 {i:Int} (h: -1<=i):Str.ofString (toString i)=tx (it i):=by
 unfold it
 by_cases e:i= -1
 .rw[Aa e,e];exact NX
 .rw[Ab e]
  have:=NU i.toNat
  rwa [show ((i.toNat:Nat):Int)=i by lia]at this
def J4 {i:Int} (h: -1<=i/\i<10 ^ 11):i.natAbs.log2<1920:=by
 have h1:i.natAbs<2 ^ 40:=by lia
 by_cases z:i.natAbs=0
 .rw[z];decide
 .have:=(Nat.log2_lt z).mpr h1
  lia
def CI {i:Int} (h: -1<=i/\i<10 ^ 11):1<=(it i).length/\(it i).length<=11:=by
 unfold it
 by_cases e:i= -1
 .rw[Aa e];decide
 .rw[Ab e]
  obtain⟨_,a,r,e2,_⟩:=EF i.toNat
  refine⟨by rw[e2];simp,Jz 10 i.toNat (by lia)⟩
def J5 {l:List Nat} (h:yE l=true):1<=l.length/\l.length<=8/\∀c∈l,(97<=c/\c<=122)\/(48<=c/\c<=57):=by
 unfold yE at h;simp only[Bo,B0,Cf,Bool.or_eq_true,yD,yC]at h;exact⟨h.1.1,h.1.2,h.2.2⟩
def Os {i:Int} {c:Nat} (h:c∈it i):c=45\/(48<=c/\c<=57):=by
 unfold it at h
 split at h
 .simp at h;lia
 .exact .inr ((EF i.toNat).1 c h)
def DN {w:Wd} (h:w.Ok):1<=w.tx.length/\w.tx.length<=11:=by
 cases w with
 |n i=>exact CI h
 |t l=>have:=J5 h;exact⟨this.1,by show l.length<=11;lia⟩
def GF {w:Wd} (h:w.Ok) {c:Nat} (hc:c∈w.tx):c=45\/(48<=c/\c<=57)\/(97<=c/\c<=122):=by
 cases w with
 |n i=>rcases Os hc with h|h;exact .inl h;exact .inr (.inl h)
 |t l=>rcases (J5 h).2.2 c hc with h|h;exact .inr (.inr h);exact .inr (.inl h)
def GG {w:Wd} (h:w.Ok) (s:S3) (H:H3):AW s H [.x w.enc]=some (.v (.str (tx w.tx))):=by
 cases w with
 |n i=>
  show (if i.natAbs.log2<1920 then some (Vl.v (.str (Str.ofString (toString i)))) else none)=_
  rw[Aa (J4 h),J3 h.1];rfl
 |t l=>rfl
def DO {α:Type} (f:α->List Nat) (l:List α):zP str3 (l.map fun a=>V3.str (tx (f a)))=some ((l.map f).map tx):=by
 rw[Ax];exact Fb (f:=str3) (g:=fun a=>V3.str (tx (f a))) (k:=fun a=>tx (f a)) (fun _=>rfl) l
theorem GH {a:List Nat} {B:Nat}:∀{ls:List (List Nat)},(∀l∈ls,l.length<=B)->(jn a ls).length<=ls.length*(B+a.length)
 | [],_=>by simp[jn]
 | [l],h=>by
  have:=h l Ak;show l.length<=1*_;lia
 |l::x::r,h=>by
  have h1:=h l Ak;have h2:=GH (a:=a) (B:=B) (ls:=x::r) fun q hq=>h q (Ap _ hq)
  rw[CF (by simp),Ar,Ar,A4,Nat.add_mul]
  lia
theorem J6 {B:Nat}:∀{ls:List (List Nat)},(∀l∈ls,l.length<=B)->((ls.map tx).map (·.length)).sum<=ls.length*B
 | [],_=>by simp
 |l::r,h=>by
  have h1:=h l Ak;have h2:=J6 (B:=B) (ls:=r) fun q hq=>h q (Ap _ hq)
  rw[Ao,Ao,List.sum_cons,z4,A4,Nat.add_mul];lia
def Ot {a:List Nat} {B:Nat} {ls:List (List Nat)} (h:∀l∈ls,l.length<=B) (hn:ls.length<=1000) (hB:B+a.length<=10000):((ls.map tx).map (·.length)).sum+(ls.map tx).length*(tx a).length<=16777216:=by
 have h1:=J6 h;rw[Ad,z4];have h2:ls.length*B+ls.length*a.length=ls.length*(B+a.length):=by rw[Nat.mul_add]
 have h3:ls.length*(B+a.length)<=1000*10000:=Nat.mul_le_mul hn hB;lia
structure RowOk (r:zQ):Prop where
 len:1<=r.length/\r.length<=5
 one:∀w∈r,w.Ok
def DP {r:zQ} (h:RowOk r) {a:List Nat} (ha:a.length<=2):(zB a r).length<=100:=by
 have h1:=GH (a:=a) (B:=11) (ls:=r.map Wd.tx) fun l hl=>by
  obtain⟨w,hw,rfl⟩:=Al.mp hl;exact (DN (h.one w hw)).2
 rw[Ad]at h1;have h2:r.length*(11+a.length)<=5*13:=Nat.mul_le_mul h.len.2 (by lia)
 unfold zB;lia
def CJ:(" " :Str)=tx [32]:=by decide+kernel
def EH:("; " :Str)=tx [59,32]:=by decide+kernel
def AG:("-" :Str)=tx [45]:=by decide+kernel
def DQ {p:P3} {a:A3} {s:S3} {h:H3} {z:List Nat} {g:Rf} {xs:List V3} {ls:List (List Nat)} {B:Nat} (ep:p s h=.ok (.x (.str (tx z))) h) (ea:a s h=.ok [g] h) (er:rdl s h g=some xs) (em:zP str3 xs=some (ls.map tx))
  (hl:∀l∈ls,l.length<=B) (hn:ls.length<=1000) (hB:B+z.length<=10000):AV p a s h=.ok (.v (.str (tx (jn z ls)))) h:=by
 unfold AV;simp only[ep,Res.bind,ea,er,em,Aa (Ot hl hn hB),NR]
def Ou {r:zQ} (hr:RowOk r) (h:H3):BN [some (.v (zd r))] h=.ok (.m (.lst (r.map fun w=>.str (tx w.tx)))) h:=by
 unfold BN
 refine EG (l:=r) (enc:=Wd.enc) (its:=[zd r]) (ok:=fun _=>True) (fun s=> ∃a,s=[a]) (fun w=>.str (tx w.tx)) (Ft (by simp![])) trivial (by have:=hr.len;lia) ⟨none,rfl⟩ ?_
 rintro w s hw ⟨a,rfl⟩;have e:=GG (hr.one w hw);exact⟨_,_,by (simp![])<;>rfl,⟨_,rfl⟩,by (simp![e])<;>rfl,rfl⟩
def Ov {r:zQ} (hr:RowOk r) (h:H3):AY [zd r] h=.ok (.v (.str (tx (zB [32] r)))) h:=by
 have ne:(r.map Wd.enc).isEmpty=false:=by
  have:=hr.len;cases r with
  |nil=>simp at this
  |cons a b=>rfl
 have ej:=DQ (p:=pE (eC (.str (" " :Str)))) (a:=aCons (pE BN) aNil) (s:=[some (.v (zd r))]) (h:=h) (z:=[32]) (B:=11) (by rw[CJ];rfl) (by (simp![Ou hr])<;>rfl) rfl (DO Wd.tx r) (fun l hl=>by
  obtain⟨w,hw,rfl⟩:=Al.mp hl;exact (DN (hr.one w hw)).2) (by rw[Ad];have:=hr.len;lia) (by decide)
 unfold zB
 (simp![AY,DD,ne,ej])
def Ow {ls:List (List Nat)} (hl:ls.length<=1000) (h:H3):BN [some (.v (.lst (ls.map fun l=>.str (tx l))))] h=.ok (.m (.lst (ls.map fun l=>.str (tx l)))) h:=by
 unfold BN
 refine EG (l:=ls) (enc:=fun l=>.str (tx l)) (its:=[.lst (ls.map fun l=>.str (tx l))]) (ok:=fun _=>True) (fun s=> ∃a,s=[a]) (fun l=>.str (tx l)) (Ng (by simp![])) trivial (by lia) ⟨none,rfl⟩ ?_
 rintro w s hw ⟨a,rfl⟩;exact⟨_,_,by (simp![])<;>rfl,⟨_,rfl⟩,by (simp![AW])<;>rfl,rfl⟩
def Ox {ls:List (List Nat)} (hl:ls.length<=1000) (hb:∀l∈ls,l.length<=100) (h:H3):AY [.lst (ls.map fun l=>.str (tx l))] h=.ok (.v (.str (tx (if ls.isEmpty then [45] else jn [32] ls)))) h:=by
 cases hn:ls.isEmpty with
 |true=>
  have ne:(ls.map fun l=>V3.str (tx l)).isEmpty=true:=by rw[CG,hn]
  (simp![AY,DD,ne,AG])
 |false=>
  have ne:(ls.map fun l=>V3.str (tx l)).isEmpty=false:=by rw[CG,hn]
  have em:zP str3 (ls.map fun l=>V3.str (tx l))=some (ls.map tx):=by
   have:=DO (fun l:List Nat=>l) ls
   rw[List.map_id']at this;exact this
  have ej:=DQ (p:=pE (eC (.str (" " :Str)))) (a:=aCons (pE BN) aNil) (s:=[some (.v (.lst (ls.map fun l=>.str (tx l))))]) (h:=h) (z:=[32]) (B:=100) (by rw[CJ];rfl) (by (simp![Ow hl])<;>rfl) rfl em hb hl (by decide)
  (simp![AY,DD,ne,ej])
structure RowsOk (rs:List zQ):Prop where
 len:rs.length<=100
 one:∀r∈rs,RowOk r
def Oy {rs:List zQ} (hr:RowsOk rs) (h:H3):DG [some (.v (.lst (rs.map zd)))] h=.ok (.m (.lst (rs.map fun r=>.str (tx (zB [32] r))))) h:=by
 unfold DG
 refine BP (x:= .lst (rs.map zd)) (enc:=zd) (fun s=> ∃a,s=[a]) _ (by simp![]) rfl (by have:=hr.len;lia) ⟨none,rfl⟩ ?_
 rintro r s hm ⟨a,rfl⟩;exact⟨_,_,by (simp![])<;>rfl,⟨_,rfl⟩,by (simp![Ov (hr.one r hm)])<;>rfl,rfl⟩
def J7 {rs:List zQ} (hr:RowsOk rs) (h:H3):BZ [.lst (rs.map zd)] h=.ok (.v (.str (tx (zN [32] [59,32] rs)))) h:=by
 unfold zN;cases hn:rs.isEmpty with
 |true=>
  have ne:(rs.map zd).isEmpty=true:=by rw[CG,hn]
  (simp![BZ,E5,ne,AG])
 |false=>
  have ne:(rs.map zd).isEmpty=false:=by rw[CG,hn]
  have ej:=DQ (p:=pE (eC (.str ("; " :Str)))) (a:=aCons (pE DG) aNil) (s:=[some (.v (.lst (rs.map zd)))]) (h:=h) (z:=[59,32]) (B:=100) (by rw[EH];rfl) (by (simp![Oy hr])<;>rfl) rfl (DO (zB [32]) rs) (fun l hl=>by
   obtain⟨r,hm,rfl⟩:=Al.mp hl;exact DP (hr.one r hm) (by decide)) (by rw[Ad];have:=hr.len;lia) (by decide)
  (simp![BZ,E5,ne,ej])
def Oz {rs:List zQ} (hr:RowsOk rs) (h:H3):DH [.lst (rs.map zd)] h=.ok (.v (.str (tx (zN [32] [59,32] rs)))) h:=by
 (simp![DH,FW,J7 hr])
def O0 {rs:List zQ} (hr:RowsOk rs) (h:H3):DJ [.lst (rs.map zd)] h=.ok (.v (.str (tx (zN [32] [59,32] rs)))) h:=by
 (simp![DJ,Gb,J7 hr])
def O1 {r:zQ} (hr:RowOk r) (h:H3) {x0 x1 x2 x3 x5:Option Vl}:DB [x0,x1,x2,x3,some (.v (zd r)),x5] h=.ok (.m (.lst (r.map fun w=>.str (tx w.tx)))) h:=by
 unfold DB
 refine EG (l:=r) (enc:=Wd.enc) (its:=[zd r]) (ok:=fun _=>True) (fun s=> ∃a,s=[a]) (fun w=>.str (tx w.tx)) (Ft (by simp![])) trivial (by have:=hr.len;lia) ⟨none,rfl⟩ ?_
 rintro w s hw ⟨a,rfl⟩;have e:=GG (hr.one w hw);exact⟨_,_,by (simp![])<;>rfl,⟨_,rfl⟩,by (simp![e])<;>rfl,rfl⟩
def jdB:D3:=(sSeq (sSet 5 DB) (sSeq (sFz 5) (qc yG (pV 3) (aCons (pE (AV (pV 1) (aCons (pV 5) aNil))) aNil))))
def O2 {x0 x2 x4 x5:Option Vl} {a:List Nat} (ha:a.length<=2) {r:zQ} (hr:RowOk r) {acc:List V3} (hl:acc.length<=1000) (h:H3):gb (gN 4) jdB (zd r) [x0,some (.v (.str (tx a))),x2,some (.m (.lst acc)),x4,x5] h=.nx [x0,some (.v (.str (tx a))),x2,some (.m (.lst (acc++[.str (tx (zB a r))]))),some (.v (zd r)),some (.v (.lst (r.map fun w=>.str (tx w.tx))))] h:=by
 unfold jdB;have ej:=DQ (p:=pV 1) (a:=aCons (pV 5) aNil) (s:=[x0,some (.v (.str (tx a))),x2,some (.m (.lst acc)),some (.v (zd r)),some (.v (.lst (r.map fun w=>.str (tx w.tx))))]) (h:=h) (z:=a) (B:=11) (by simp![]) (by (simp![])<;>rfl) rfl (DO Wd.tx r) (fun l hl=>by
  obtain⟨w,hw,rfl⟩:=Al.mp hl;exact (DN (hr.one w hw)).2) (by rw[Ad];have:=hr.len;lia) (by lia)
 have ap:yG acc [.str (tx (zB a r))]=some (acc++[.str (tx (zB a r))],.non):=mAppend_ok (by have:=yw;lia)
 have ej':AV (pV 1) (aCons (pV 5) aNil) [x0,some (.v (.str (tx a))),x2,some (.m (.lst acc)),some (.v (zd r)),some (.v (.lst (r.map fun w=>.str (tx w.tx))))] h=.ok (.v (.str (tx (zB a r)))) h:=ej
 (simp![O1 hr,ej',ap])
def GI {rs:List zQ} (hr:RowsOk rs) {a b:List Nat} (ha:a.length<=2) (hb:b.length<=2) (h:H3):BW [.lst (rs.map zd),.str (tx a),.str (tx b)] h=.ok (.v (.str (tx (zN a b rs)))) h:=by
 show Is h _ _;unfold BW FI
 refine BL rfl ?_
 unfold zN;cases hn:rs.isEmpty with
 |true=>
  have e:rs=[]:=List.isEmpty_iff.mp hn;subst e;unfold Is
  (simp![AG])<;>rfl
 |false=>
  have ne:∀s,yd s h (.x (.lst (rs.map zd))) (.x (.lst []))=some (.v (.bl false)):=fun s=>by
   rw[Og rfl,CG,hn]
  refine zR (by (simp![ne])<;>rfl) ?_
  refine zR (by (simp![])<;>rfl) ?_
  obtain⟨s',h',e,x4,x5,rfl,rfl⟩:=GC (g:=gN 4) (b:=jdB) (it:=iL (pV 0)) (s:=[some (.v (.lst (rs.map zd))),some (.v (.str (tx a))),some (.v (.str (tx b))),some (.m (.lst [])),none,none]) (h:=h) (l:=rs) (enc:=zd) (its:=[.lst (rs.map zd)]) (ok:=fun _=>True) (by (simp![iL,yM])<;>rfl) (fun i s h'=> ∃x4 x5,s=[some (.v (.lst (rs.map zd))),some (.v (.str (tx a))),some (.v (.str (tx b))),some (.m (.lst ((rs.take i).map fun r=>.str (tx (zB a r))))),x4,x5]/\h'=h) (fun _ _ _ _=>trivial) ⟨none,none,rfl,rfl⟩ (by
   rintro i r s h' hi ⟨x4,x5,rfl,rfl⟩;have hm:=Aj hi;rw[Ob hi,A9,Ao,Bp];exact⟨_,_,O2 ha (hr.one r hm) (by rw[Ad,B3];have:=hr.len;lia) _,_,_,rfl,rfl⟩)
  refine zR e ?_
  rw[List.take_length]
  refine zR (by (simp![])<;>rfl) ?_
  have ej:=DQ (p:=pV 2) (a:=aCons (pV 3) aNil) (s:=[some (.v (.lst (rs.map zd))),some (.v (.str (tx a))),some (.v (.str (tx b))),some (.v (.lst (rs.map fun r=>.str (tx (zB a r))))),x4,x5]) (h:=h') (z:=b) (B:=100) (by simp![]) (by (simp![])<;>rfl) rfl (DO (zB a) rs) (fun l hl=>by
   obtain⟨r,hm,rfl⟩:=Al.mp hl;exact DP (hr.one r hm) ha) (by rw[Ad];have:=hr.len;lia) (by lia)
  unfold Is
  (simp![ej])
abbrev zF (p:Int×Int):zQ:=[.n p.1,.n p.2]
structure SpOk (sp:List (Int×Int)):Prop where
 len:sp.length<=100
 one:∀p∈sp,0<=p.1/\p.1<10 ^ 11/\0<=p.2/\p.2<10 ^ 11
def SpOk.rows {sp:List (Int×Int)} (h:SpOk sp):RowsOk (sp.map zF):=⟨by rw[Ad];exact h.len,fun r hr=>by
 obtain⟨p,hp,rfl⟩:=Al.mp hr;have:=h.one p hp
 refine⟨by show 1<=2/\2<=5;decide,fun w hw=>?_⟩
 simp only[Ai,B2,Bk]at hw
 rcases hw with rfl|rfl
 .exact⟨by lia,by lia⟩
 .exact⟨by lia,by lia⟩⟩
def J8 {i:Int} (h: -1<=i/\i<10 ^ 11) {p:P3} {s:S3} {H:H3} (e:p s H=.ok (.x (.int i)) H):eFmt p s H=.ok (.v (.str (tx (it i)))) H:=by
 unfold eFmt;simp only[e,Res.bind,Aa (J4 h),J3 h.1]
def O4 {sp:List (Int×Int)} (hs:SpOk sp) (h:H3):Ex [some (.v (.lst (sp.map zL)))] h=.ok (.m (.lst ((sp.map fun p=>zB [45] (zF p)).map fun l=>.str (tx l)))) h:=by
 unfold Ex;rw[Ax]
 refine BP (x:= .lst (sp.map zL)) (enc:=zL) (fun s=> ∃a b,s=[a,b]) _ (by simp![]) rfl (by have:=hs.len;lia) ⟨none,none,rfl⟩ ?_
 rintro p s hm ⟨a,b,rfl⟩;have o:=hs.one p hm;have e1:=J8 (i:=p.1) (by lia) (p:=pV 0) (s:=[some (.v (.int p.1)),some (.v (.int p.2))]) (H:=h) (by simp![])
 have e2:=J8 (i:=p.2) (by lia) (p:=pV 1) (s:=[some (.v (.int p.1)),some (.v (.int p.2))]) (H:=h) (by simp![])
 have l1:=(CI (i:=p.1) (by lia)).2
 have l2:=(CI (i:=p.2) (by lia)).2
 have q1:(tx (it p.1)).length<=10000:=by rw[z4];lia
 have q2:(tx (it p.2)).length<=10000:=by rw[z4];lia
 have q3:(tx [45]).length<=10000:=by decide
 refine⟨_,_,by (simp![])<;>rfl,⟨_,_,rfl⟩,by (simp![eF3,e1,e2,AG,Aa q1,Aa q2,Aa q3])<;>rfl,?_⟩
 show some (V3.str (tx (it p.1)++tx [45]++tx (it p.2)))=_;rw[CD,CD];rfl
def O5 {sp:List (Int×Int)} (hs:SpOk sp) (h:H3):DE [.lst (sp.map zL)] h=.ok (.v (.str (tx (zN [45] [32] (sp.map zF))))) h:=by
 have e:=Ox (ls:=sp.map fun p=>zB [45] (zF p)) (by rw[Ad];have:=hs.len;lia) (fun l hl=>by
  obtain⟨p,hp,rfl⟩:=Al.mp hl;exact DP (hs.rows.one _ (Al.mpr ⟨p,hp,rfl⟩)) (by decide)) h
 have e2:(if (sp.map fun p=>zB [45] (zF p)).isEmpty then [45] else jn [32] (sp.map fun p=>zB [45] (zF p)))=zN [45] [32] (sp.map zF):=by
  unfold zN;rw[CG,CG,Ax];rfl
 rw[e2]at e
 (simp![DE,FQ,O4 hs,e])
def O6 {l:List Nat} (h:yE l=true):∃a r,l=a::r/\l.length<=8/\yD a=true/\l.all (fun c=>yD c || yC c)=true:=by
 unfold yE at h;simp only[Bo,B0]at h;obtain⟨⟨h1,h2⟩,h3,h4⟩:=h
 match l,h1,h2,h3,h4 with
 |a::r,h1,h2,h3,h4=>exact⟨a,r,rfl,h2,h3,h4⟩
def O7 {l:List Nat} (hn:yE l=true) (h:H3):DF [.str (tx l)] h=.ok (.v (.bl true)) h:=by
 obtain⟨a,r,rfl,h8,hs,ha⟩:=O6 hn;have hc:Ey [some (.v (.str (tx (a::r))))] h=.ok (.m (.lst (((a::r).map fun c=>yD c || yC c).map .bl))) h:=by
  unfold Ey;rw[Ax]
  refine J0 (fun s=> ∃x,s=[x]) _ (by simp![]) (by lia) ⟨none,rfl⟩ ?_
  rintro c s _ ⟨x,rfl⟩;exact⟨_,_,by (simp![])<;>rfl,⟨_,rfl⟩,by (simp![NN,G0,NQ])<;>rfl,rfl⟩
 have hl:(a::r).length<=sizeLine:=by have:=yw;lia
 have hl2:r.length+1<=sizeLine:=hl;have l1:(1:Int)<=((r.length+1:Nat):Int):=by lia
 have l8:((r.length+1:Nat):Int)<=8:=by rw[A4]at h8;lia
 have hall:(((a::r).map fun c=>yD c || yC c)).all id=true:=by rw[List.all_map];exact ha
 have hb:bAll (fun bs=>bs.all id) [some (.v (.str (tx (a::r))))] h [.x (.lst (((a::r).map fun c=>yD c || yC c).map .bl))]=some (.v (.bl true)):=by rw[GB,hall]
 rw[Ao,Ao,hs,Bool.true_or]at hb hc;simp![DF,FT,z4,hl2,l1,l8,DL,Jv,G0,NP,hs,hc,hb]
def isF (l:List Nat):Prop:=1<=l.length/\l.length<=11/\(∀c∈l,48<=c/\c<=57)/\∃a r,l=a::r/\(a≠48\/l=[48])
def J9:("0123456789" :Str)=tx [48,49,50,51,52,53,54,55,56,57]:=by decide+kernel
def tx_0:("0" :Str)=tx [48]:=by decide+kernel
def O8 (c:Nat):decide (c∈[48,49,50,51,52,53,54,55,56,57])=yC c:=by
 by_cases h:c<128
 .exact (by decide+kernel:∀c,c<128->decide (c∈[48,49,50,51,52,53,54,55,56,57])=yC c) c h
 .rw[As fun m=>h ((by decide+kernel:∀x∈[48,49,50,51,52,53,54,55,56,57],x<128) c m)]
  unfold yC;rw[As (p:=c<=57) (by lia),C1]
def O9 {l:List Nat} (hf:isF l) (h:H3):CT [.str (tx l)] h=.ok (.v (.bl true)) h:=by
 obtain⟨h1,h11,hd,a,r,rfl,ha⟩:=hf;have hc:Es [some (.v (.str (tx (a::r))))] h=.ok (.m (.lst (((a::r).map fun c=>yC c).map .bl))) h:=by
  unfold Es;rw[Ax]
  refine J0 (fun s=> ∃x,s=[x]) _ (by simp![]) (by lia) ⟨none,rfl⟩ ?_
  rintro c s _ ⟨x,rfl⟩;exact⟨_,_,by (simp![])<;>rfl,⟨_,rfl⟩,by (simp![J9,G0,O8])<;>rfl,rfl⟩
 have hall:(((a::r).map fun c=>yC c)).all id=true:=by
  rw[List.all_map,Cf];intro c hc;have:=hd c hc;show yC c=true;unfold yC;rw[Bq this.1,Bq this.2];rfl
 have hb:bAll (fun bs=>bs.all id) [some (.v (.str (tx (a::r))))] h [.x (.lst (((a::r).map fun c=>yC c).map .bl))]=some (.v (.bl true)):=by rw[GB,hall]
 rw[Ao,Ao]at hb hc;have hl2:r.length+1<=sizeLine:=by have:=yw;rw[A4]at h11;lia
 have l1:(1:Int)<=((r.length+1:Nat):Int):=by lia
 have l8:((r.length+1:Nat):Int)<=11:=by rw[A4]at h11;lia
 have n0:(Str.ofString "0" :Str)=tx [48]:=tx_0
 by_cases q:a=48
 .subst q
  have e:(48::r)=[48]:=by rcases ha with z|z;exact absurd rfl z;exact z
  have e2:r=[]:=by simpa using e
  subst e2
  (simp![CT,Et,z4,hl2,l1,l8,DL,n0,tx_0,hc,hb,GE,CH])<;>rfl
 .have ne:decide (tx [a]=tx [48])=false:=As fun z=>q (by have:=Gz z;simpa using this)
  (simp![CT,Et,z4,hl2,l1,l8,DL,n0,tx_0,hc,hb,GE,ne])<;>rfl
def it_F {i:Int} (h:0<=i/\i<10 ^ 11):isF (it i):=by
 have hl:=CI (i:=i) (by lia)
 unfold it at*;rw[Ab (by lia)] at*
 obtain⟨h1,a,r,e,h2⟩:=EF i.toNat
 refine⟨hl.1,hl.2,h1,a,r,e,?_⟩
 by_cases q:a=48
 .right
  rw[h2 q];rfl
 .exact .inl q
def BB {i:Int} (h:0<=i/\i<10 ^ 11) (H:H3):yY [.str (tx (it i))] H=.ok (.v (.int i)) H:=by
 have e1:=O9 (it_F h);have hl:=(CI (i:=i) (by lia)).2
 have e2:∀s h,D4 s h [.x (.str (tx (it i)))]=some (.v (.int i)):=fun s hh=>by
  have e3:PySem.intText? (tx (it i))=some i:=by
   have hl':=hl;unfold it at hl' ⊢;rw[Ab (by lia)]at hl' ⊢
   rw[NW (by lia)]
   congr 1;lia
  unfold D4;simp only[e3,z4,Aa (show (it i).length<=640 by lia)]
 (simp![yY,FH,e1,e2])
def JA {l:List Nat} (h:yE l=true) (H:H3):CV [.str (tx l)] H=.ok (.v (.str (tx l))) H:=by
 (simp![CV,FU,O7 h])
def OA {i:Int} (h: -1<=i/\i<10 ^ 11) (H:H3):CY [.str (tx (it i))] H=.ok (.v (.int i)) H:=by
 have m1:("-1" :Str)=tx [45,49]:=by decide+kernel
 by_cases e:i= -1
 .subst e
  have e2:it (-1)=[45,49]:=rfl
  (simp![CY,E6,m1,e2,CH])<;>rfl
 .have ne:decide (tx (it i)=tx [45,49])=false:=As fun z=>by
   have z:=Gz z;have:=(it_F (i:=i) (by lia)).2.2.1 45 (by rw[z];decide)
   lia
  (simp![CY,E6,m1,CH,ne,BB (i:=i) (by lia)])
def OB {p:P3} {a:A3} {s:S3} {h:H3} {u v:List Nat} {c:Nat} (hc:c∉u) (hl:(u++c::v).length<=100000) (ep:p s h=.ok (.x (.str (tx (u++c::v)))) h) (ea:a s h=.ok [.x (.str (tx [c]))] h):Eo p a s h=.ok (.v (.tup [.str (tx u),.str (tx [c]),.str (tx v)])) h:=by
 unfold Eo;have e:(tx (u++c::v)).length<=100000/\((tx [c]).length==0)=false:=⟨by rw[z4];exact hl,by rw[z4];rfl⟩
 simp only[ep,Res.bind,ea,Aa e,NT hc]
def GJ {p:P3} {a:A3} {s:S3} {h:H3} {s0:Nat} {s':List Nat} {ls:List (List Nat)} (hne:ls≠[]) (hf:∀p∈ls,s0∉p) (hk:∀p∈ls,∀c∈p,c<256) (hs:∀c∈s0::s',c<256) (hl:(jn (s0::s') ls).length<=100000)
  (ep:p s h=.ok (.x (.str (tx (jn (s0::s') ls)))) h) (ea:a s h=.ok [.x (.str (tx (s0::s')))] h):BM p a s h=.ok (.m (.lst (ls.map fun l=>.str (tx l)))) h:=by
 unfold BM;have e:(tx (jn (s0::s') ls)).length<=100000/\((tx (s0::s')).length==0)=false:=⟨by rw[z4];exact hl,by rw[z4];rfl⟩
 simp only[ep,Res.bind,ea,Aa e,NS hne hf hk hs,Ax];rfl
def OC (a:List Nat) (v w:Wd):zB a [v,w]=v.tx++a++w.tx:=rfl
def OD {p:Int×Int} (h0:0<=p.1/\p.1<10 ^ 11) (h1:0<=p.2/\p.2<10 ^ 11) (h:H3):DC [.str (tx (zB [45] (zF p)))] h=.ok (.v (zL p)) h:=by
 have e:zB [45] (zF p)=it p.1++45::it p.2:=by rw[OC];show it p.1++[45]++it p.2=_;simp
 have l1:=(CI (i:=p.1) (by lia)).2
 have l2:=(CI (i:=p.2) (by lia)).2
 rw[e];have ep:=OB (p:=pV 0) (a:=aCons (pE (eC (.str ("-" :Str)))) aNil) (s:=[some (.v (.str (tx (it p.1++45::it p.2)))),none,none,none]) (h:=h) (u:=it p.1) (v:=it p.2) (c:=45) (fun hc=>by
  have:=(it_F h0).2.2.1 45 hc;lia) (by rw[Ar,A4];lia) (by simp![]) (by (simp![AG])<;>rfl)
 (simp![DC,FK,ep,BB h0,BB h1])
def JB {b l:List Nat} {r:List (List Nat)}:l.length<=(jn b (l::r)).length:=by
 cases r with
 |nil=>exact Ac _
 |cons x y=>rw[CF (by simp),Ar,Ar];lia
def OE {a:List Nat} (ha:1<=a.length) {r:zQ} (h2:2<=r.length) (hr:RowOk r):3<=(zB a r).length:=by
 match r,h2,hr with
 |v::w::r,_,hr=>
  unfold zB;rw[Ao,Ao,CF (by simp),Ar,Ar]
  have h1:=(DN (hr.one v Ak)).1;have h2:=(DN (hr.one w (Ap _ Ak))).1;have h3:=JB (b:=a) (l:=w.tx) (r:=r.map Wd.tx);lia
structure Rows2 (rs:List zQ):Prop extends RowsOk rs where
 two:∀r∈rs,2<=r.length
def JC {a b:List Nat} (ha:1<=a.length) {rs:List zQ} (h:Rows2 rs) (hne:rs≠[]):decide (tx (zN a b rs)=tx [45])=false:=As fun z=>by
 have z:=Gz z;unfold zN at z
 match rs,hne,h with
 |r::q,_,h=>
  rw[Ab (by simp),Ao]at z
  have h1:=JB (b:=b) (l:=zB a r) (r:=q.map (zB a));have h2:=OE ha (h.two r Ak) (h.one r Ak);have h3:(jn b (zB a r::q.map (zB a))).length=1:=by rw[z];rfl
  lia
def EI {a:List Nat} {r:zQ} (hr:RowOk r) {c:Nat} (hc:c∈zB a r):c∈a\/c=45\/(48<=c/\c<=57)\/(97<=c/\c<=122):=by
 rcases GA hc with h|⟨p,hp,h⟩
 .exact .inl h
 .obtain⟨w,hw,rfl⟩:=Al.mp hp
  exact .inr (GF (hr.one w hw) h)
def JD {a b:List Nat} (ha:a.length<=2) (hb:b.length<=2) {rs:List zQ} (h:RowsOk rs):(jn b (rs.map (zB a))).length<=100000:=by
 have h1:=GH (a:=b) (B:=100) (ls:=rs.map (zB a)) fun l hl=>by
  obtain⟨r,hr,rfl⟩:=Al.mp hl;exact DP (h.one r hr) ha
 rw[Ad]at h1;have h2:rs.length*(100+b.length)<=100*102:=Nat.mul_le_mul h.len (by lia)
 lia
def Ris:Int->List (Int×Int)->Prop
 |_,[]=>True
 |b,p::r=>b+2<=p.1/\p.1<=p.2/\p.2<10 ^ 11/\Ris p.2 r
theorem Ris.ok:∀{b:Int} {sp:List (Int×Int)},-2<=b->Ris b sp->∀p∈sp,0<=p.1/\p.1<10 ^ 11/\0<=p.2/\p.2<10 ^ 11
 |_,[],_,_,p,hp=>by cases hp
 |b,q::r,hb,h,p,hp=>by
  obtain⟨h1,h2,h3,h4⟩:=h
  rcases Ai.mp hp with rfl|hp
  .lia
  .exact Ris.ok (b:=q.2) (by lia) h4 p hp
theorem Ris.at:∀{b:Int} {sp:List (Int×Int)} (i:Nat) {p:Int×Int},Ris b sp->sp[i]? =some p->¬p.2<p.1/\¬p.1<(if i=0 then b else (sp.getD (i-1) (0,0)).2)+2
 |b,[],i,p,_,h=>by simp at h
 |b,q::r,0,p,h,e=>by
  cases e;obtain⟨h1,h2,h3,h4⟩:=h;rw[Aa rfl];lia
 |b,q::r,i+1,p,h,e=>by
  obtain⟨h1,h2,h3,h4⟩:=h;have:=Ris.at i h4 (by simpa using e)
  cases i with
  |zero=>simpa using this
  |succ i=>simpa using this
def SpOk.two {sp:List (Int×Int)} (h:SpOk sp):Rows2 (sp.map zF):=⟨h.rows,fun r hr=>by
 obtain⟨p,_,rfl⟩:=Al.mp hr;exact Ac 2⟩
def Rt (v:Vl) (h:H3) (R:Res Vl):Prop:=R=.ok v h
def OF {sp:List (Int×Int)} (hs:SpOk sp) (hne:sp≠[]) (h:H3) {x1 x2 x3 x4:Option Vl}:Eu [some (.v (.str (tx (jn [32] ((sp.map zF).map (zB [45])))))),x1,x2,x3,x4] h=.ok (.m (.lst (sp.map zL))) h:=by
 have es:=GJ (p:=pV 0) (a:=aCons (pE (eC (.str (" " :Str)))) aNil) (s:=[some (.v (.str (tx (jn [32] ((sp.map zF).map (zB [45])))))),x1,x2,x3,x4]) (h:=h) (s0:=32) (s':=[]) (ls:=(sp.map zF).map (zB [45])) (by simpa using hne) (fun l hl hm=>by
  obtain⟨r,hr,rfl⟩:=Al.mp hl
  rcases EI (hs.rows.one r hr) hm with z|z|z|z
  .simp at z
  .lia
  .lia
  .lia) (fun l hl c hc=>by
  obtain⟨r,hr,rfl⟩:=Al.mp hl
  rcases EI (hs.rows.one r hr) hc with z|z|z|z
  .simp at z;lia
  .lia
  .lia
  .lia) (by decide) (JD (by decide) (by decide) hs.rows) (by simp![]) (by (simp![CJ])<;>rfl)
 unfold Eu;have em:((sp.map zF).map (zB [45])).map (fun l=>V3.str (tx l))=sp.map fun p=>V3.str (tx (zB [45] (zF p))):=by rw[Ax,Ax];rfl
 rw[em]at es
 refine BP (l:=sp) (x:= .lst (sp.map fun p=>.str (tx (zB [45] (zF p))))) (enc:=fun p=>.str (tx (zB [45] (zF p)))) (fun s=> ∃a,s=[a]) zL (by (simp![es])<;>rfl) rfl (by have:=hs.len;lia) ⟨none,rfl⟩ ?_
 rintro p s hm ⟨a,rfl⟩;have o:=hs.one p hm;exact⟨_,_,by (simp![])<;>rfl,⟨_,rfl⟩,by (simp![OD (p:=p) ⟨o.1,o.2.1⟩ o.2.2])<;>rfl,rfl⟩
def OG {sp:List (Int×Int)} (hs:SpOk sp) (hr:Ris (-2) sp) (h:H3):BX [.str (tx (zN [45] [32] (sp.map zF)))] h=.ok (.v (.loc h.length)) (h++[.lst (sp.map zL)]):=by
 show Rt (.v (.loc h.length)) (h++[.lst (sp.map zL)]) _;unfold BX FN FL
 refine BL rfl ?_
 by_cases hne:sp=[]
 .subst hne
  have e:zN [45] [32] (([]:List (Int×Int)).map zF)=[45]:=rfl;rw[e];have q:∀s,yd s h (.x (.str (tx [45]))) (.x (.str (tx [45])))=some (.v (.bl true)):=fun s=>by rw[CH,Bq rfl]
  unfold Rt
  (simp![AG,q,yX])<;>rfl
 .have ne:∀s,yd s h (.x (.str (tx (zN [45] [32] (sp.map zF))))) (.x (.str (tx [45])))=some (.v (.bl false)):=fun s=>by rw[CH,JC (by decide) hs.two (by simpa using hne)]
  have er:zN [45] [32] (sp.map zF)=jn [32] ((sp.map zF).map (zB [45])):=by
   unfold zN;rw[Ab (by simpa using hne)]
  refine zR (by (simp![AG,ne])<;>rfl) ?_
  rw[er]
  refine zR (by (simp![yX,OF hs hne])<;>rfl) ?_
  refine zR (by (simp![])<;>rfl) ?_
  have hH:(h++[C3.lst (sp.map zL)])[h.length]? =some (.lst (sp.map zL)):=by simp
  generalize h++[C3.lst (sp.map zL)]=H at*
  refine it_E (l:=sp) (enc:=zL) (its:=[.loc h.length]) (ok:=fun h'=>h'[h.length]? =some (.lst (sp.map zL))) (by (simp![iL,yM,hH])<;>rfl) (fun i s h'=>h'=H/\∃x3 x4,s=[some (.v (.str (tx (jn [32] ((sp.map zF).map (zB [45])))))),some (.v (.loc h.length)),some (.v (.int (if i=0 then -2 else (sp.getD (i-1) (0,0)).2))),x3,x4]) (fun _ _ _ ⟨e,_⟩=>e ▸ hH) ⟨rfl,none,none,rfl⟩ ?_ ?_
  .rintro i p s h' hi ⟨rfl,x3,x4,rfl⟩
   obtain⟨a1,a2⟩:=hr.at i hi;generalize (if i=0 then -2 else (sp.getD (i-1) (0,0)).2)=b at*
   have e:(sp.getD (i+1-1) (0,0)).2=p.2:=by rw[Nat.add_sub_cancel,C2,hi];rfl
   rw[Ab (show ¬i+1=0 by lia),e]
   exact .inl ⟨_,_,.inl (by (simp![a1,a2])<;>rfl),rfl,_,_,rfl⟩
  .rintro s h' ⟨rfl,x3,x4,rfl⟩
   unfold Rt
   (simp![])<;>rfl
abbrev zM (r:zQ):V3:= .lst (r.map fun w=>.str (tx w.tx))
def OH {r:zQ} (hr:RowOk r) {s:S3} {h:H3} {p:P3} (ep:p s h=.ok (.x (.str (tx (zB [32] r)))) h):BM p (aCons (pE (eC (.str (" " :Str)))) aNil) s h=.ok (.m (.lst (r.map fun w=>.str (tx w.tx)))) h:=by
 have es:=GJ (p:=p) (a:=aCons (pE (eC (.str (" " :Str)))) aNil) (s:=s) (h:=h) (s0:=32) (s':=[]) (ls:=r.map Wd.tx) (by
  have:=hr.len;intro z;rw[List.map_eq_nil_iff.mp z]at this;simp at this) (fun l hl hm=>by
  obtain⟨w,hw,rfl⟩:=Al.mp hl
  rcases GF (hr.one w hw) hm with z|z|z<;>lia) (fun l hl c hc=>by
  obtain⟨w,hw,rfl⟩:=Al.mp hl
  rcases GF (hr.one w hw) hc with z|z|z<;>lia) (by decide) (by have:=DP (a:=[32]) hr (by decide);unfold zB at this;lia) ep (by (simp![CJ])<;>rfl)
 rw[Ax]at es;exact es
def OI {rs:List zQ} (hr:RowsOk rs) (hne:rs≠[]) (h:H3) {x1 x2:Option Vl}:Ez [some (.v (.str (tx (jn [59,32] (rs.map (zB [32])))))),x1,x2] h=.ok (.m (.lst (rs.map zM))) h:=by
 have es:=GJ (p:=pV 0) (a:=aCons (pE (eC (.str ("; " :Str)))) aNil) (s:=[some (.v (.str (tx (jn [59,32] (rs.map (zB [32])))))),x1,x2]) (h:=h) (s0:=59) (s':=[32]) (ls:=rs.map (zB [32])) (by simpa using hne) (fun l hl hm=>by
   obtain⟨r,hr',rfl⟩:=Al.mp hl
   rcases EI (hr.one r hr') hm with z|z|z|z
   .simp at z
   .lia
   .lia
   .lia) (fun l hl c hc=>by
   obtain⟨r,hr',rfl⟩:=Al.mp hl
   rcases EI (hr.one r hr') hc with z|z|z|z
   .simp at z;lia
   .lia
   .lia
   .lia) (by decide) (JD (by decide) (by decide) hr) (by simp![]) (by (simp![EH])<;>rfl)
 unfold Ez;rw[Ax]at es
 refine BP (l:=rs) (x:= .lst (rs.map fun r=>.str (tx (zB [32] r)))) (enc:=fun r=>.str (tx (zB [32] r))) (fun s=> ∃a,s=[a]) zM ?_ rfl (by have:=hr.len;lia) ⟨none,rfl⟩ ?_
 .have es':BM (pV 0) (aCons (pE (eC (.str ("; " :Str)))) aNil) [some (.v (.str (tx (jn [59,32] (rs.map (zB [32])))))),x1,x2] h=.ok (.m (.lst (rs.map fun r=>.str (tx (zB [32] r))))) h:=es
  (simp![es'])<;>rfl
 .rintro r s hm ⟨a,rfl⟩
  have e:=OH (hr.one r hm) (s:=[some (.v (.str (tx (zB [32] r))))]) (h:=h) (p:=pV 0) (by simp![])
  exact⟨_,_,by (simp![])<;>rfl,⟨_,rfl⟩,by (simp![e])<;>rfl,rfl⟩
def OJ {rs:List zQ} {n:Nat} (hr:RowsOk rs) (hn:∀r∈rs,r.length=n) (h:H3) {x0:Option Vl}:E1 [x0,some (.v (.int (n:Int))),some (.v (.lst (rs.map zM)))] h=.ok (.m (.lst ((rs.map fun _=>false).map .bl))) h:=by
 unfold E1;rw[Ax]
 refine BP (l:=rs) (x:= .lst (rs.map zM)) (enc:=zM) (fun s=> ∃a,s=[a,some (.v (.int (n:Int)))]) _ (by (simp![])<;>rfl) rfl (by have:=hr.len;lia) ⟨none,rfl⟩ ?_
 rintro r s hm ⟨a,rfl⟩;have e:=hn r hm;have q:∀s,yf s h (.x (.int (r.length:Int))) (.x (.int (n:Int)))=some (.v (.bl false)):=fun s=>by
  rw[e];unfold yf yJ;simp only[rdm,rdl,D2,decide_true,Ck,A0]
 exact⟨_,_,by (simp![])<;>rfl,⟨_,rfl⟩,by (simp![Ad,q])<;>rfl,rfl⟩
def JE {rs:List zQ} {n:Nat} (hr:Rows2 rs) (hn:∀r∈rs,r.length=n) (h:H3):∃v,(v=.v (.lst (rs.map zM))\/v=.m (.lst (rs.map zM)))/\qk [.str (tx (zN [32] [59,32] rs)),.int (n:Int)] h=.ok v h:=by
 by_cases hne:rs=[]
 .subst hne
  have e:zN [32] [59,32] ([]:List zQ)=[45]:=rfl;rw[e];have q:∀s,yd s h (.x (.str (tx [45]))) (.x (.str (tx [45])))=some (.v (.bl true)):=fun s=>by rw[CH,Bq rfl]
  exact⟨_,.inr rfl,by (simp![qk,E2,AG,q])<;>rfl⟩
 .have ne:∀s,yd s h (.x (.str (tx (zN [32] [59,32] rs)))) (.x (.str (tx [45])))=some (.v (.bl false)):=fun s=>by rw[CH,JC (by decide) hr hne]
  have er:zN [32] [59,32] rs=jn [59,32] (rs.map (zB [32])):=by
   unfold zN;rw[Ab (by simpa using hne)]
  rw[er]at ne ⊢;have c1:=fun x1 x2=>OI (x1:=x1) (x2:=x2) hr.toRowsOk hne h
  have c2:=fun x0=>OJ (x0:=x0) hr.toRowsOk hn h
  have hall:(rs.map fun _=>false).any id=false:=by rw[List.any_map];simp
  have hb:∀s,bAll (fun bs=>bs.any id) s h [.x (.lst ((rs.map fun _=>false).map .bl))]=some (.v (.bl false)):=fun s=>by rw[GB,hall]
  generalize (rs.map fun _=>false).map V3.bl=zs at*
  exact⟨_,.inl rfl,by (simp![qk,E2,AG,ne,c1,c2,hb])<;>rfl⟩
structure PlanOk (pl:List (Int×Int×List Nat)):Prop where
 len:pl.length<=100
 one:∀p∈pl,(0<=p.1/\p.1<10 ^ 11)/\(0<=p.2.1/\p.2.1<10 ^ 11)/\yE p.2.2=true
abbrev zU (p:Int×Int×List Nat):zQ:=[.n p.1,.n p.2.1,.t p.2.2]
def PlanOk.two {pl:List (Int×Int×List Nat)} (h:PlanOk pl):Rows2 (pl.map zU):=⟨⟨by rw[Ad];exact h.len,fun r hr=>by
 obtain⟨p,hp,rfl⟩:=Al.mp hr;obtain⟨h1,h2,h3⟩:=h.one p hp
 refine⟨by show 1<=3/\3<=5;decide,fun w hw=>?_⟩
 simp only[Ai,B2,Bk]at hw
 rcases hw with rfl|rfl|rfl
 .exact⟨by lia,by lia⟩
 .exact⟨by lia,by lia⟩
 .exact h3⟩,fun r hr=>by
 obtain⟨p,_,rfl⟩:=Al.mp hr;show 2<=3;decide⟩
def OK {pl:List (Int×Int×List Nat)} (hp:PlanOk pl) (h:H3):CW [.str (tx (zN [32] [59,32] (pl.map zU)))] h=.ok (.m (.lst ((pl.map zU).map zd))) h:=by
 obtain⟨v,hv,er⟩:=JE (n:=3) hp.two (fun r hr=>by
  obtain⟨p,_,rfl⟩:=Al.mp hr;rfl) h
 have er:qk [.str (tx (zN [32] [59,32] (pl.map zU))),.int 3] h=.ok v h:=er;have hc:E4 [some (.v (.str (tx (zN [32] [59,32] (pl.map zU)))))] h=.ok (.m (.lst ((pl.map zU).map zd))) h:=by
  unfold E4;have ex:pE (eCall qk (aCons (pV 0) (aCons (kJ 3) aNil))) [some (.v (.str (tx (zN [32] [59,32] (pl.map zU)))))] h=.ok (.x (.lst (pl.map fun p=>zM (zU p)))) h:=by
   have em:(pl.map zU).map zM=pl.map fun p=>zM (zU p):=by rw[Ax];rfl
   rw[em]at hv
   rcases hv with rfl|rfl
   ·(simp![er])
   ·(simp![er])
  rw[Ax]
  refine BP (l:=pl) (x:= .lst (pl.map fun p=>zM (zU p))) (enc:=fun p=>zM (zU p)) (fun s=> ∃a b c,s=[a,b,c]) (zd∘zU) ex rfl (by have:=hp.len;lia) ⟨none,none,none,rfl⟩ ?_
  rintro p s hm ⟨a,b,c,rfl⟩;obtain⟨h1,h2,h3⟩:=hp.one p hm;exact⟨[some (.v (.str (tx (it p.1)))),some (.v (.str (tx (it p.2.1)))),some (.v (.str (tx p.2.2)))],_,by (simp![])<;>rfl,⟨_,_,_,rfl⟩,by (simp![BB h1,BB h2,JA h3])<;>rfl,rfl⟩
 (simp![CW,FV,hc])
structure Jo where
 nm:List Nat
 f:Int
 l:Int
 w:Int
 b:Int
abbrev z6 (j:Jo):zQ:=[.t j.nm,.n j.f,.n j.l,.n j.w,.n j.b]
structure JoOk (js:List Jo):Prop where
 len:js.length<=100
 one:∀j∈js,yE j.nm=true/\(0<=j.f/\j.f<10 ^ 11)/\(-1<=j.l/\j.l<10 ^ 11)/\(0<=j.w/\j.w<10 ^ 11)/\(0<=j.b/\j.b<10 ^ 11)
def JoOk.two {js:List Jo} (h:JoOk js):Rows2 (js.map z6):=⟨⟨by rw[Ad];exact h.len,fun r hr=>by
 obtain⟨p,hp,rfl⟩:=Al.mp hr;obtain⟨h1,h2,h3,h4,h5⟩:=h.one p hp
 refine⟨by show 1<=5/\5<=5;decide,fun w hw=>?_⟩
 simp only[Ai,B2,Bk]at hw
 rcases hw with rfl|rfl|rfl|rfl|rfl
 .exact h1
 .exact⟨by lia,by lia⟩
 .exact h3
 .exact⟨by lia,by lia⟩
 .exact⟨by lia,by lia⟩⟩,fun r hr=>by
 obtain⟨p,_,rfl⟩:=Al.mp hr;show 2<=5;decide⟩
def OL {js:List Jo} (hp:JoOk js) (h:H3):CZ [.str (tx (zN [32] [59,32] (js.map z6)))] h=.ok (.m (.lst ((js.map z6).map zd))) h:=by
 obtain⟨v,hv,er⟩:=JE (n:=5) hp.two (fun r hr=>by
  obtain⟨p,_,rfl⟩:=Al.mp hr;rfl) h
 have er:qk [.str (tx (zN [32] [59,32] (js.map z6))),.int 5] h=.ok v h:=er;have hc:E7 [some (.v (.str (tx (zN [32] [59,32] (js.map z6)))))] h=.ok (.m (.lst ((js.map z6).map zd))) h:=by
  unfold E7;have ex:pE (eCall qk (aCons (pV 0) (aCons (kJ 5) aNil))) [some (.v (.str (tx (zN [32] [59,32] (js.map z6)))))] h=.ok (.x (.lst (js.map fun p=>zM (z6 p)))) h:=by
   have em:(js.map z6).map zM=js.map fun p=>zM (z6 p):=by rw[Ax];rfl
   rw[em]at hv
   rcases hv with rfl|rfl
   ·(simp![er])
   ·(simp![er])
  rw[Ax]
  refine BP (l:=js) (x:= .lst (js.map fun p=>zM (z6 p))) (enc:=fun p=>zM (z6 p)) (fun s=> ∃a,s=[a]) (zd∘z6) ex rfl (by have:=hp.len;lia) ⟨none,rfl⟩ ?_
  rintro p s hm ⟨a,rfl⟩;obtain⟨h1,h2,h3,h4,h5⟩:=hp.one p hm;have ej:DI [zM (z6 p)] h=.ok (.v (zd (z6 p))) h:=by
   (simp![DI,FZ,JA h1,BB h2,OA h3,BB h4,BB h5,Wd.tx,Ao,Bp])<;>rfl
  exact⟨_,_,by (simp![])<;>rfl,⟨_,rfl⟩,by (simp![ej])<;>rfl,rfl⟩
 (simp![CZ,Ga,hc])
def OM {h:H3} {n:Nat} (w:Wd):zX h n w.enc w.enc=some true:=by
 cases w with
 |n i=>rw[show Wd.enc (.n i)=.int i from rfl,D2];simp
 |t l=>rw[show Wd.enc (.t l)=.str (tx l) from rfl,Fl];simp
def ON {h:H3} {n:Nat} (r:zQ):zX h (n+1) (zd r) (zd r)=some true:=Oe fun x hx=>by
 obtain⟨w,_,rfl⟩:=Al.mp hx;exact OM w
def JF {h:H3} {rs:List zQ}:∀x∈rs.map zd,zX h 8 x x=some true:=fun x hx=>by
 obtain⟨r,_,rfl⟩:=Al.mp hx;exact ON r
def OO {r:zQ} (hl:r.length<=5) (h:H3) {x0 x1:Option Vl}:Ew [x0,x1,some (.v (zd r))] h=.ok (.m (.lst [])) h:=by
 unfold Ew;have:=Oq (n:=1) (fr:=[]) (it:=iLT (pV 2)) (g:=gN 0) (c:=(tE (eB bIsT (aCons (pV 0) (aCons (pE (eC (.ty "bool"))) aNil))))) (e:=eV 0) (s:=[x0,x1,some (.v (zd r))]) (h:=h) (l:=r) (enc:=Wd.enc) (its:=[zd r]) (ok:=fun _=>True) (fun s=> ∃a,s=[a]) (fun _=>false) Wd.enc (Ft (by simp![])) trivial (by lia) ⟨none,rfl⟩ (by
  rintro w s hw ⟨a,rfl⟩
  refine⟨_,by (simp![])<;>rfl,⟨_,rfl⟩,?_,fun z=>by cases z⟩
  cases w with
  |n i=>(simp![])<;>rfl
  |t l=>(simp![])<;>rfl)
 rw[List.filter_eq_nil_iff.mpr (fun _ _=>by decide)]at this
 exact this
def Di {rs:List zQ} (hr:RowsOk rs) {h:H3} {n:Nat} (hn:h[n]? =some (.lst (rs.map zd))):AF [.loc n,.lst (rs.map zd)] h=.ok (.v (.bl true)) h:=by
 show Is h _ _;unfold AF FP FO
 refine BL rfl ?_
 have ne:∀s,yf s h (.x (.loc n)) (.x (.lst (rs.map zd)))=some (.v (.bl false)):=fun s=>J1 (xs:=rs.map zd) (by simp only[rdm,rdl,hn]) rfl JF
 refine zR (by (simp![ne,hn])<;>rfl) ?_
 refine it_E (l:=rs) (enc:=zd) (its:=[.loc n]) (ok:=fun h'=>h'[n]? =some (.lst (rs.map zd))) (by (simp![iL,yM,hn])<;>rfl) (fun i s h'=>h'=h/\∃x2,s=[some (.v (.loc n)),some (.v (.lst (rs.map zd))),x2]) (fun _ _ _ ⟨e,_⟩=>e ▸ hn) ⟨rfl,none,rfl⟩ ?_ ?_
 .rintro i r s h' hi ⟨rfl,x2,rfl⟩
  have hm:=Aj hi;have c:=fun x0 x1=>OO (x0:=x0) (x1:=x1) (hr.one r hm).len.2 h'
  exact .inl ⟨_,_,.inl (by (simp![c])<;>rfl),rfl,_,rfl⟩
 .rintro s h' ⟨rfl,x2,rfl⟩
  unfold Is
  (simp![])<;>rfl
section
variable {h:H3} {rs:List zQ} {t:List Nat}
def ne_t {s:S3}:yf s h (.x (.str (tx t))) (.x (.str (tx t)))=some (.v (.bl false)):=by rw[GE,Bq rfl];rfl
def GK {s:S3}:yf s h (.x (.lst (rs.map zd))) (.x (.lst (rs.map zd)))=some (.v (.bl false)):=J1 (xs:=rs.map zd) rfl rfl JF
def JG {y:V3} (hr:RowsOk rs):yG (rs.map zd) [y]=some (rs.map zd++[y],.non):=mAppend_ok (by rw[Ad];have:=hr.len;have:=yw;lia)
def BC {x:C3}:(h++[x])[h.length]? =some x:=by simp
def GL {x y:C3}:(h++[x]).set h.length y=h++[y]:=by rw[List.set_append_right _ _ (Ac _)];simp
def GM {sp:List (Int×Int)} (hs:SpOk sp) (hr:Ris (-2) sp) (h:H3):∃g,BY [.lst ((sp.map zF).map zd)] h=.ok (.v (.bl true)) (h++g):=by
 have em:(sp.map zF).map zd=sp.map zL:=by rw[Ax];rfl
 have e1:=GI hs.rows (a:=[45]) (b:=[32]) (by decide) (by decide) h
 have e2:=O5 hs h;have e3:=OG hs hr;rw[<-em]at e2;have e3':∀h,BX [.str (tx (zN [45] [32] (sp.map zF)))] h=.ok (.v (.loc h.length)) (h++[.lst ((sp.map zF).map zd)]):=fun h=>by rw[em];exact e3 h
 have r1:=Di hs.rows (h:=h++[.lst ((sp.map zF).map zd)]) (n:=h.length) BC;have a1:=JG (y:= .tup [.int 0,.int 0]) hs.rows;have hl:(h++[C3.lst ((sp.map zF).map zd++[.tup [.int 0,.int 0]])]).length=h.length+1:=by simp
 have r2:=Di hs.rows (h:=h++[.lst ((sp.map zF).map zd++[.tup [.int 0,.int 0]])]++[.lst ((sp.map zF).map zd)]) (n:=h.length+1) (by rw[<-hl];exact BC)
 have q1:= @BC h (.lst ((sp.map zF).map zd));have q2:= @GL h (.lst ((sp.map zF).map zd)) (.lst ((sp.map zF).map zd++[.tup [.int 0,.int 0]]));have z1:=fun s=> @ne_t h (zN [45] [32] (sp.map zF)) s
 have z2:=fun s=> @GK h (sp.map zF) s
 have e4:=e3' (h++[C3.lst ((sp.map zF).map zd++[.tup [.int 0,.int 0]])]);rw[hl]at e4;have e3'':=e3' h;clear e3 e3';generalize (sp.map zF).map zd=xs at*;generalize hn:h.length=n at*;generalize h++[C3.lst xs]=H1 at*
 refine⟨[.lst (xs++[.tup [.int 0,.int 0]]),.lst xs],?_⟩
 have ef:h++[C3.lst (xs++[.tup [.int 0,.int 0]]),C3.lst xs]=h++[C3.lst (xs++[.tup [.int 0,.int 0]])]++[.lst xs]:=by simp
 rw[ef];generalize h++[C3.lst (xs++[.tup [.int 0,.int 0]])]=H2 at*;generalize H2++[C3.lst xs]=H3' at*;generalize tx (zN [45] [32] (sp.map zF))=T at*
 (simp![BY,FR,AG,CJ,e1,e2,z1,z2,e3'',r1,a1,q1,q2,e4,r2])<;>rfl
def GN {pl:List (Int×Int×List Nat)} (hs:PlanOk pl) (h:H3):∃g,CA [.lst ((pl.map zU).map zd)] h=.ok (.v (.bl true)) (h++g):=by
 have e1:=GI hs.two.toRowsOk (a:=[32]) (b:=[59,32]) (by decide) (by decide) h
 have e2:=Oz hs.two.toRowsOk h;have e3:=OK hs;have r1:=Di hs.two.toRowsOk (h:=h++[.lst ((pl.map zU).map zd)]) (n:=h.length) BC;have a1:=JG (y:= .tup [.int 0,.int 0,.str ("a" :Str)]) hs.two.toRowsOk;have hl:(h++[C3.lst ((pl.map zU).map zd++[.tup [.int 0,.int 0,.str ("a" :Str)]])]).length=h.length+1:=by simp
 have r2:=Di hs.two.toRowsOk (h:=h++[.lst ((pl.map zU).map zd++[.tup [.int 0,.int 0,.str ("a" :Str)]])]++[.lst ((pl.map zU).map zd)]) (n:=h.length+1) (by rw[<-hl];exact BC)
 have q1:= @BC h (.lst ((pl.map zU).map zd));have q2:= @GL h (.lst ((pl.map zU).map zd)) (.lst ((pl.map zU).map zd++[.tup [.int 0,.int 0,.str ("a" :Str)]]));have z1:=fun s=> @ne_t h (zN [32] [59,32] (pl.map zU)) s
 have z2:=fun s=> @GK h (pl.map zU) s
 have e4:=e3 (h++[C3.lst ((pl.map zU).map zd++[.tup [.int 0,.int 0,.str ("a" :Str)]])]);have e3':=e3 h;clear e3;generalize (pl.map zU).map zd=xs at*;generalize hn:h.length=n at*
 refine⟨[.lst (xs++[.tup [.int 0,.int 0,.str ("a" :Str)]]),.lst xs],?_⟩
 have ef:h++[C3.lst (xs++[.tup [.int 0,.int 0,.str ("a" :Str)]]),C3.lst xs]=h++[C3.lst (xs++[.tup [.int 0,.int 0,.str ("a" :Str)]])]++[.lst xs]:=by simp
 rw[ef];generalize hH1:h++[C3.lst xs]=H1 at*;generalize h++[C3.lst (xs++[.tup [.int 0,.int 0,.str ("a" :Str)]])]=H2 at*;generalize hH3:H2++[C3.lst xs]=H3' at*;generalize tx (zN [32] [59,32] (pl.map zU))=T at*
 (simp![CA,FX,yX,EH,CJ,e1,e2,z1,z2,e3',r1,a1,q1,q2,e4,r2,hn,hl,hH1,hH3])<;>rfl
def GO {pl:List Jo} (hs:JoOk pl) (h:H3):∃g,CB [.lst ((pl.map z6).map zd)] h=.ok (.v (.bl true)) (h++g):=by
 have e1:=GI hs.two.toRowsOk (a:=[32]) (b:=[59,32]) (by decide) (by decide) h
 have e2:=O0 hs.two.toRowsOk h;have e3:=OL hs;have r1:=Di hs.two.toRowsOk (h:=h++[.lst ((pl.map z6).map zd)]) (n:=h.length) BC;have hl:(h++[C3.lst []]).length=h.length+1:=by simp
 have r2:=Di hs.two.toRowsOk (h:=h++[.lst []]++[.lst ((pl.map z6).map zd)]) (n:=h.length+1) (by rw[<-hl];exact BC)
 have q1:= @BC h (.lst ((pl.map z6).map zd));have q2:= @GL h (.lst ((pl.map z6).map zd)) (.lst []);have z1:=fun s=> @ne_t h (zN [32] [59,32] (pl.map z6)) s
 have z2:=fun s=> @GK h (pl.map z6) s
 have e4:=e3 (h++[C3.lst []]);have e3':=e3 h;clear e3;generalize (pl.map z6).map zd=xs at*;generalize hn:h.length=n at*
 refine⟨[.lst [],.lst xs],?_⟩
 have ef:h++[C3.lst [],C3.lst xs]=h++[C3.lst []]++[.lst xs]:=by simp
 rw[ef];generalize hH1:h++[C3.lst xs]=H1 at*;generalize h++[C3.lst []]=H2 at*;generalize hH3:H2++[C3.lst xs]=H3' at*;generalize tx (zN [32] [59,32] (pl.map z6))=T at*
 (simp![CB,Gc,yX,EH,CJ,e1,e2,z1,z2,e3',r1,En,q1,q2,e4,r2,hn,hl,hH1,hH3])<;>rfl
end
def cl0 (ns:List Int) (k:Nat):Int:=if 0<ns.length then 7919*(k:Int)+101+(ns.getD (7*k%ns.length) 0)%1000003*((k:Int)+3) else 7919*(k:Int)+101
def cl (ns:List Int) (k:Nat):Int:=if k<ns.length then ns.getD k 0 else cl0 ns k*cl0 ns k%1000003
def OP (ns:List Int) {k:Nat} (hk:k<=100): -(2 ^ 64)<cl0 ns k/\cl0 ns k<2 ^ 64:=by
 unfold cl0
 split
 .generalize ns.getD (7*k%ns.length) 0=x
  have h1:0<=x%1000003/\x%1000003<1000003:=by lia
  have h2:0<=x%1000003*((k:Int)+3):=Int.mul_nonneg h1.1 (by lia)
  have h3:x%1000003*((k:Int)+3)<=1000003*103:=Int.mul_le_mul (by lia) (by lia) (by lia) (by lia)
  lia
 .lia
def JH {ns:List Int} {k:Nat} (hk:k<ns.length):atI (ns.map V3.int) (k:Int)=some (.int (ns.getD k 0)):=AJ (j:=k) (by rw[A8,z8 hk,C2,z8 hk];rfl)
def OQ {ns:List Int} {K L:Int} {v:V3} (hL:(ns.length:Int)=L) (l1:K<L) (e:atI (ns.map V3.int) K=some v) (h:H3):y0 [.scr ns,.int K] h=.ok (.v v) h:=by
 (simp![y0,DA,Ad,hL,l1,e])
def OR {ns:List Int} {K L x:Int} (hL:(ns.length:Int)=L) (l1: ¬K<L) (l2:0<L) (e:atI (ns.map V3.int) (7*K%L)=some (.int x)) (c1:CMul 7919 K) (c4:CMul 7 K) (c3:CMul (x%1000003) (K+3)) (c2:CMul (7919*K+101+x%1000003*(K+3)) (7919*K+101+x%1000003*(K+3))) (h:H3):y0 [.scr ns,.int K] h=.ok (.v (.int ((7919*K+101+x%1000003*(K+3))*(7919*K+101+x%1000003*(K+3))%1000003))) h:=by
 (simp![y0,DA,Ad,hL,l1,l2,c1,c2,c3,c4,e])
def OS {ns:List Int} {K L:Int} (hL:(ns.length:Int)=L) (l1: ¬K<L) (l2: ¬0<L) (c1:CMul 7919 K) (c2:CMul (7919*K+101) (7919*K+101)) (h:H3):y0 [.scr ns,.int K] h=.ok (.v (.int ((7919*K+101)*(7919*K+101)%1000003))) h:=by
 (simp![y0,DA,Ad,hL,l1,l2,c1,c2])
def GP (ns:List Int) (hl:ns.length<=63) {k:Nat} (hk:k<=100) (h:H3):y0 [.scr ns,.int (k:Int)] h=.ok (.v (.int (cl ns k))) h:=by
 unfold cl;have c1:CMul 7919 (k:Int):=AU ⟨by decide,by decide⟩
 have c2:=AU (j:=cl0 ns k) (OP ns hk);have c4:CMul 7 (k:Int):=AU ⟨by decide,by decide⟩
 by_cases h1:k<ns.length
 .rw[Aa h1]
  exact OQ rfl (by lia) (JH h1) h
 .rw[Ab h1]
  unfold cl0 at c2 ⊢
  by_cases h2:0<ns.length
  .rw[Aa h2]at c2 ⊢
   have ek:((7*k%ns.length:Nat):Int)=7*(k:Int)%(ns.length:Int):=by rw[Int.natCast_emod,Int.natCast_mul];rfl
   have e:=JH (ns:=ns) (k:=7*k%ns.length) (Nat.mod_lt _ h2);rw[ek]at e;generalize ns.getD (7*k%ns.length) 0=x at*;exact OR rfl (by lia) (by lia) e c1 c4 (AU ⟨by lia,by lia⟩) c2 h
  .rw[Ab h2]at c2 ⊢
   exact OS rfl (by lia) (by lia) c1 c2 h
def nb (c:Int):Int:=if c%3=0 then c / 3%12 else c / 3%100000000000
def nb_b (c:Int):0<=nb c/\nb c<10 ^ 11:=by unfold nb;split<;>lia
def DR (c:Int) (h:H3):qg [.int c] h=.ok (.v (.int (nb c))) h:=by
 have p1:CPow 10 11:=by decide
 have p2:(10:Int) ^ (11:Int).toNat=100000000000:=by decide
 have p3:(0:Int)<100000000000:=by decide
 unfold nb
 by_cases q:c%3=0
 .rw[Aa q]
  (simp![qg,Er,p1,p2,p3,q])
 .rw[Ab q]
  (simp![qg,Er,p1,p2,p3,q])
def OT (many:Int) (h:H3) (R:Res Vl):Prop:=∃ls:List (List Nat),R=.ok (.m (.lst (ls.map fun l=>.str (tx l)))) h/\ls.length=many.toNat/\∀l∈ls,yE l=true
def Pre (l:List Nat) (j:Nat):Prop:=l.length=j/\(∀c∈l,(yD c || yC c)=true)/\(0<j->yD (l.headD 0)=true)
def OU:tx abc++tx [48,49,50,51,52,53,54,55,56,57]=tx abc9:=by rw[CD];rfl
def JI {s:S3} {h:H3} {i j:Str} (hl:i.length+j.length<=sizeLine):zm s h (.x (.str i)) (.x (.str j))=some (.v (.str (i++j))):=by
 unfold zm yW Dy oI Dz;simp only[Aa hl]
def OV {x0 x1 x3 x5 x9:Option Vl} {c at_ k:Int} {J:Int} {l:List Nat} (hl:Pre l J.toNat) (hj:0<=J/\J<8) (hk:0<=k/\k<=10) (h:H3):
  ∃l' y9,Pre l' (J.toNat+1)/\gb (gN 8) (sSeq (sSet 9 (eOp zm (pE (eOp zE (pV 0) (pE (eOp zm (kJ 64) (pE (eOp zZ (kJ 29) (pV 8))))))) (pE (eOp zZ (pV 6) (pE (eB bInt (aCons (pE (eOp yd (pV 8) (pV 4))) aNil))))))) (sIf (tE (eOp yd (pV 8) (kJ 0))) (sSet 7 (eOp zm (pV 7) (pE (eOp yk (pV 2) (pE (eOp zA (pV 9) (kJ 26))))))) (sSet 7 (eOp zm (pV 7) (pE (eOp yk (pE (eOp zm (pV 2) (pE (eC (.str ("0123456789" :Str)))))) (pE (eOp zA (pV 9) (kJ 36))))))))) (.int J) [some (.v (.int c)),x1,some (.v (.str (tx abc))),x3,some (.v (.int at_)),x5,some (.v (.int k)),some (.v (.str (tx l))),x0,x9] h
   =.nx [some (.v (.int c)),x1,some (.v (.str (tx abc))),x3,some (.v (.int at_)),x5,some (.v (.int k)),some (.v (.str (tx l'))),some (.v (.int J)),y9] h:=by
 obtain⟨h1,h2,h3⟩:=hl;have c1:CMul 29 J:=AU ⟨by decide,by decide⟩
 have c2:CDiv c (64+29*J):=⟨by lia,by lia⟩
 have c3:∀x,CMul k x:=fun x=>AU ⟨by lia,by lia⟩
 have s26:abc.length<=sizeLine:=by decide
 have s36:abc9.length<=sizeLine:=by decide
 have lk:(tx l).length+1<=sizeLine:=by rw[z4];have:=yw;lia
 have l1:∀c,(tx [c]).length=1:=fun c=>by rw[z4];rfl
 have l36:(tx abc).length+(tx [48,49,50,51,52,53,54,55,56,57]).length<=sizeLine:=by decide
 have ed:∀s h,zE s h (.x (.int c)) (.x (.int (64+29*J)))=some (.v (.int (c / (64+29*J)))):=fun s h=>by unfold zE oI;simp only[Aa c2];rfl
 have ea:∀s h c,zm s h (.x (.str (tx l))) (.x (.str (tx [c])))=some (.v (.str (tx l++tx [c]))):=fun s h c=>JI (by rw[l1];exact lk)
 have eb:∀s h,zm s h (.x (.str (tx abc))) (.x (.str (tx [48,49,50,51,52,53,54,55,56,57])))=some (.v (.str (tx abc9))):=fun s h=>by rw[JI l36,OU]
 generalize hv:c / (64+29*J)+k*(if J=at_ then 1 else 0)=v
 by_cases hj0:J=0
 .have t0:J.toNat=0:=by lia
  refine⟨l++[ch (v%26)],some (.v (.int v)),⟨by simp[h1],fun c hc=>?_,fun _=>?_⟩,?_⟩
  .rcases Aq.mp hc with hc|hc
   .exact h2 c hc
   .rw[A2]at hc
    subst hc;obtain⟨m,hm⟩:=B7 (show 0<=v%26 by lia)
    rw[hm];exact J2 m (by lia)
  .have e:l=[]:=Cs (h1.trans t0)
   subst e;obtain⟨m,hm⟩:=B7 (show 0<=v%26 by lia)
   show yD (ch (v%26))=true;rw[hm];exact On m (by lia)
  .have j0:(J=0)=True:=eq_true hj0
   rw[<-CD]
   (simp![c1,ed,c3,oEq_int,hv,DL,s26,Om,ea,j0])<;>rfl
 .have j0:(J=0)=False:=eq_false hj0
  refine⟨l++[ch (v%36)],some (.v (.int v)),⟨by simp[h1],fun c hc=>?_,fun _=>?_⟩,?_⟩
  .rcases Aq.mp hc with hc|hc
   .exact h2 c hc
   .rw[A2]at hc
    subst hc;obtain⟨m,hm⟩:=B7 (show 0<=v%36 by lia)
    rw[hm];exact J2 m (by lia)
  .have:=h3 (by lia)
   cases l with
   |nil=>exact absurd h1 (by show ¬0=_;lia)
   |cons a r=>exact this
  .rw[<-CD]
   (simp![c1,ed,c3,oEq_int,hv,DL,s36,Ol,ea,eb,j0,J9])<;>rfl
abbrev sN (c m sz at_:Int) (ls:List (List Nat)) (x6 x7 x8 x9:Option Vl):S3:=[some (.v (.int c)),some (.v (.int m)),some (.v (.str (tx abc))),some (.v (.int sz)),some (.v (.int at_)),some (.m (.lst (ls.map fun l=>.str (tx l)))),x6,x7,x8,x9]
def OW {c m sz at_ k:Int} {ls:List (List Nat)} (hs:1<=sz/\sz<=8) (hk:0<=k/\k<=10) (h:H3) {x8 x9:Option Vl}:
  ∃l y8 y9,Pre l sz.toNat/\Fv (sN c m sz at_ ls (some (.v (.int k))) (some (.v (.str (tx [])))) x8 x9) h=.nx (sN c m sz at_ ls (some (.v (.int k))) (some (.v (.str (tx l)))) y8 y9) h:=by
 have ei:=NZ (a:=(aCons (pV 3) aNil)) (s:=sN c m sz at_ ls (some (.v (.int k))) (some (.v (.str (tx [])))) x8 x9) (h:=h) (j:=sz) (by (simp![])<;>rfl) (by lia)
 obtain⟨s',h',e,l,y8,y9,p,rfl,rfl⟩:=GC (g:=gN 8) (l:=List.range sz.toNat) (enc:=fun j:Nat=>V3.int (j:Int)) (its:=[]) (ok:=fun _=>True) ei (fun i s h'=> ∃l y8 y9,Pre l i/\s=sN c m sz at_ ls (some (.v (.int k))) (some (.v (.str (tx l)))) y8 y9/\h'=h) (fun _ _ _ _=>trivial) ⟨[],x8,x9,⟨rfl,(fun c hc=>by cases hc),(fun z=>absurd z (by lia))⟩,rfl,rfl⟩ (by
  rintro i j s h' hi ⟨l,y8,y9,p,rfl,rfl⟩;have hj:=Br.mp (Aj hi);have hij:j=i:=by
   obtain⟨h1,h2⟩:=Av.mp hi;rw[List.getElem_range]at h2;exact h2.symm
  subst hij;obtain⟨l',z9,p',e⟩:=OV (x0:=y8) (x9:=y9) (c:=c) (at_:=at_) (J:=(j:Int)) (k:=k) (x1:=some (.v (.int m))) (x3:=some (.v (.int sz))) (x5:=some (.m (.lst (ls.map fun l=>.str (tx l))))) (l:=l) (by rw[Cm];exact p) (by lia) hk h'
  rw[Cm]at p';exact⟨_,_,e,l',_,z9,p',rfl,rfl⟩)
 rw[Cy]at p;exact⟨l,y8,y9,p,e⟩
def OX {l:List Nat} {n:Nat} (p:Pre l n) (h1:1<=n/\n<=8):yE l=true:=by
 obtain⟨a,b,c⟩:=p;unfold yE;rw[Bq (show 1<=l.length by lia),Bq (show l.length<=8 by lia),c (by lia)]
 simpa using b
def OY (c m:Int) (hm:0<=m/\m<=10) (h:H3):OT m h (D6 [.int c,.int m] h):=by
 unfold D6 Fx Fw
 refine BL rfl ?_
 refine zR (by (simp![Jv])<;>rfl) ?_
 refine zR (by (simp![])<;>rfl) ?_
 generalize hz:1+c%8=sz;have hs:1<=sz/\sz<=8:=by lia
 have sp:0<sz:=by lia
 refine zR (by (simp![sp])<;>rfl) ?_
 generalize c / 8%sz=at_
 refine zR (by (simp![])<;>rfl) ?_
 refine ML (j:=m) (by simp![]) (by lia) (fun i s=> ∃ls x6 x7 x8 x9,s=sN c m sz at_ ls x6 x7 x8 x9/\ls.length=i/\∀l∈ls,yE l=true) ⟨[],none,none,none,none,rfl,rfl,by simp⟩ ?_ ?_
 .rintro i s hi ⟨ls,x6,x7,x8,x9,rfl,hl,hn⟩
  obtain⟨l,y8,y9,p,e⟩:=OW (c:=c) (m:=m) (at_:=at_) (ls:=ls) (k:=(i:Int)) hs (by lia) h (x8:=x8) (x9:=x9)
  have ap:yG (ls.map fun l=>V3.str (tx l)) [.str (tx l)]=some ((ls.map fun l=>V3.str (tx l))++[.str (tx l)],.non):=mAppend_ok (by rw[Ad];have:=yw;lia)
  have t0:("" :Str)=tx []:=NO;unfold sN at e ⊢
  refine⟨_,by (simp![t0,e,ap])<;>rfl,ls++[l],_,_,_,_,by rw[A9];rfl,by simp[hl],fun q hq=>?_⟩
  rcases Aq.mp hq with hq|hq
  .exact hn q hq
  .rw[A2]at hq;subst hq;exact OX p (by lia)
 .rintro s ⟨ls,x6,x7,x8,x9,rfl,hl,hn⟩
  refine⟨ls,by (simp![])<;>rfl,hl,hn⟩
def OZ (x:Int):atI [V3.int 4,V3.int 1000000000] (x%2)=some (.int (if x%2=0 then 4 else 1000000000)):=by
 have h:x%2=0\/x%2=1:=by lia
 rcases h with h|h<;>rw[h]<;>rfl
def Pa (n:Nat) (h:H3) (R:Res Vl):Prop:=∃sp:List (Int×Int),R=.ok (.m (.lst (sp.map zL))) h/\SpOk sp/\Ris (-2) sp/\sp.length=n
def Dj (sp:List (Int×Int)):Int:=(sp.getLast?.map fun p=>p.2).getD (-2)
theorem Ris.snoc:∀{b:Int} {sp:List (Int×Int)} {p:Int×Int},Ris b sp->(if sp=[] then b else Dj sp)+2<=p.1->p.1<=p.2->p.2<10 ^ 11->Ris b (sp++[p])
 |b,[],p,_,h1,h2,h3=>by rw[Aa rfl]at h1;exact⟨h1,h2,h3,trivial⟩
 |b,q::r,p,h,h1,h2,h3=>by
  obtain⟨a1,a2,a3,a4⟩:=h
  refine⟨a1,a2,a3,Ris.snoc (b:=q.2) a4 ?_ h2 h3⟩
  rw[Ab (by simp)]at h1
  by_cases e:r=[]
  .subst e;rw[Aa rfl];exact h1
  .rw[Ab e]
   have:Dj (q::r)=Dj r:=by unfold Dj;rw[List.getLast?_cons_of_ne_nil e]
   rwa [this]at h1
structure SpI (i:Nat) (sp:List (Int×Int)) (t:Int):Prop where
 len:sp.length=i
 ris:Ris (-2) sp
 tt:t=Dj sp+2
 lo:0<=t
 hi:t<=(i:Int)*2000000010
def Pb {i:Nat} {t f q w:Int} (h1:t<=(i:Int)*2000000010) (h2:f<=t+1000000000) (h3:q<w) (h4:w<=1000000000):f+q+2<=((i+1:Nat):Int)*2000000010:=by
 have e:((i+1:Nat):Int)*2000000010=(i:Int)*2000000010+2000000010:=by rw[Int.natCast_add,Int.add_mul];rfl
 rw[e];generalize (i:Int)*2000000010=M at*;lia
def Pc (ds:List Int) (hd:ds.length<=40) (h:H3):Pa ds.length h (D7 [.lst (ds.map .int)] h):=by
 unfold D7 Fz Fy
 refine BL rfl ?_
 refine zR (by (simp![])<;>rfl) ?_
 refine zR (by (simp![])<;>rfl) ?_
 refine Fo (x:= .lst (ds.map .int)) (l:=ds) (enc:= .int) (by simp![]) rfl (fun i s=> ∃sp t x3 x4 x5,s=[some (.v (.lst (ds.map .int))),some (.m (.lst (sp.map zL))),some (.v (.int t)),x3,x4,x5]/\SpI i sp t) ⟨[],0,none,none,none,rfl,⟨rfl,trivial,rfl,by decide,by simp⟩⟩ ?_ ?_
 .rintro i c s hi ⟨sp,t,x3,x4,x5,rfl,I⟩
  have hil:i<ds.length:=(Av.1 hi).1;have p1:CPow 10 9:=by decide
  have p2:(10:Int) ^ (9:Int).toNat=1000000000:=by decide
  have p3:(0:Int)<1000000000:=by decide
  have e2:=OZ (c / 28);generalize hw:(if c / 28%2=0 then (4:Int) else 1000000000)=wd at e2
  have hwb:0<wd/\wd<=1000000000:=by rw[<-hw];split<;>lia
  have wp:=hwb.1;have c3:sp.length<sizeLine:=by rw[I.len];have:=yw;lia
  refine⟨_,by (simp![p1,p2,p3,e2,wp,c3,Ad])<;>rfl,?_⟩
  generalize hf:(if c / 5%3=0 then t+c / 15%3 else t+c%1000000000)=f
  have hfb:t<=f/\f<=t+1000000000:=by rw[<-hf];split<;>lia
  have hq:0<=c / 7%wd/\c / 7%wd<wd:=⟨Int.emod_nonneg _ (by lia),Int.emod_lt_of_pos _ wp⟩
  have hlo:=I.lo;have hhi:=I.hi;have htt:=I.tt
  refine⟨sp++[(f,f+c / 7%wd)],f+c / 7%wd+2,_,_,_,by rw[A9];rfl,⟨by simp[I.len],?_,?_,by lia,?_⟩⟩
  .refine I.ris.snoc ?_ (by show f<=f+_;lia) (by show f+_<_;lia)
   show _<=f
   by_cases e:sp=[]
   .rw[Aa e];lia
   .rw[Ab e];lia
  .unfold Dj;simp
  .exact Pb hhi hfb.2 hq.2 hwb.2
 .rintro s ⟨sp,t,x3,x4,x5,rfl,I⟩
  refine⟨sp,by (simp![])<;>rfl,⟨by rw[I.len];lia,Ris.ok (b:= -2) (by decide) I.ris⟩,I.ris,I.len⟩
def Pd (n:Nat) (h:H3) (R:Res Vl):Prop:=∃pl:List (Int×Int×List Nat),R=.ok (.m (.lst ((pl.map zU).map zd))) h/\PlanOk pl/\n<=pl.length
def JJ {ls:List (List Nat)} {m:Int} (hm:(ls.length:Int)=m) (hp:0<m) (x:Int):∃l∈ls,atI (ls.map fun l=>V3.str (tx l)) (x%m)=some (.str (tx l)):=by
 have h0:0<=x%m:=Int.emod_nonneg _ (by lia)
 have h1:x%m<m:=Int.emod_lt_of_pos _ hp;obtain⟨k,hk⟩:=B7 h0;have hkl:k<ls.length:=by lia
 refine⟨ls[k],List.getElem_mem _,?_⟩
 rw[hk];exact AJ (j:=k) (by rw[A8,z8 hkl];rfl)
def Pe (ds:List Int) (hd:ds.length<=40) {ls:List (List Nat)} (hl:0<ls.length/\ls.length<=10) (hn:∀l∈ls,yE l=true) (h:H3):Pd ds.length h (D8 [.lst (ds.map .int),.lst (ls.map fun l=>.str (tx l))] h):=by
 unfold D8 FC FA
 refine BL rfl ?_
 refine zR (by (simp![])<;>rfl) ?_
 obtain⟨m,hm⟩:∃m:Int,(ls.length:Int)=m:=⟨_,rfl⟩;have hp:0<m:=by lia
 refine Fo (x:= .lst (ds.map .int)) (l:=ds) (enc:= .int) (by simp![]) rfl (fun i s=> ∃pl x3 x4,s=[some (.v (.lst (ds.map .int))),some (.v (.lst (ls.map fun l=>.str (tx l)))),some (.m (.lst ((pl.map zU).map zd))),x3,x4]/\i<=pl.length/\pl.length<=2*i/\∀p∈pl,(0<=p.1/\p.1<10 ^ 11)/\(0<=p.2.1/\p.2.1<10 ^ 11)/\yE p.2.2=true) ⟨[],none,none,rfl,by simp,by simp,by simp⟩ ?_ ?_
 .rintro i c s hi ⟨pl,x3,x4,rfl,h1,h2,h3⟩
  have hil:i<ds.length:=(Av.1 hi).1;obtain⟨l,hlm,el⟩:=JJ hm hp c;have c1:CMul 5 c:=AU ⟨by decide,by decide⟩
  have ap:∀{xs:List V3} {y:V3},xs.length<=100->yG xs [y]=some (xs++[y],.non):=fun hx=>mAppend_ok (by have:=yw;lia)
  have row:(0<=nb c/\nb c<10 ^ 11)/\(0<=nb (c / 11+5*c)/\nb (c / 11+5*c)<10 ^ 11)/\yE l=true:=⟨nb_b _,nb_b _,hn l hlm⟩;have a1:=ap (xs:=(pl.map zU).map zd) (y:= .tup [.int (nb c),.int (nb (c / 11+5*c)),.str (tx l)]) (by rw[Ad,Ad];lia)
  have a2:=ap (xs:=(pl.map zU).map zd++[.tup [.int (nb c),.int (nb (c / 11+5*c)),.str (tx l)]]) (y:= .tup [.int (nb c),.int (nb (c / 11+5*c)),.str (tx l)]) (by rw[Ar,Ad,Ad];show _+1<=_;lia)
  by_cases q:c / 13%5=0
  .refine⟨_,by (simp![DR,Ad,hm,hp,el,c1,a1,a2,q])<;>rfl,pl++[(nb c,nb (c / 11+5*c),l),(nb c,nb (c / 11+5*c),l)],_,_,by rw[A9,A9,B5];rfl,by simp;lia,by simp;lia,fun p hp=>?_⟩
   rcases Aq.mp hp with hp|hp
   .exact h3 p hp
   .simp only[Ai,B2,Bk,or_self]at hp
    subst hp;exact row
  .refine⟨_,by (simp![DR,Ad,hm,hp,el,c1,a1,q])<;>rfl,pl++[(nb c,nb (c / 11+5*c),l)],_,_,by rw[A9,A9];rfl,by simp;lia,by simp;lia,fun p hp=>?_⟩
   rcases Aq.mp hp with hp|hp
   .exact h3 p hp
   .rw[A2]at hp
    subst hp;exact row
 .rintro s ⟨pl,x3,x4,rfl,h1,h2,h3⟩
  exact⟨pl,by (simp![])<;>rfl,⟨by lia,h3⟩,h1⟩
def Pf (n:Nat) (h:H3) (R:Res Vl):Prop:=∃js:List Jo,R=.ok (.m (.lst ((js.map z6).map zd))) h/\JoOk js/\js.length=n
def Pg (ds:List Int) (hd:ds.length<=40) {ls:List (List Nat)} (hl:0<ls.length/\ls.length<=10) (hn:∀l∈ls,yE l=true) (h:H3):Pf ds.length h (D9 [.lst (ds.map .int),.lst (ls.map fun l=>.str (tx l))] h):=by
 unfold D9 FE FD
 refine BL rfl ?_
 refine zR (by (simp![])<;>rfl) ?_
 obtain⟨m,hm⟩:∃m:Int,(ls.length:Int)=m:=⟨_,rfl⟩;have hp:0<m:=by lia
 refine Fo (x:= .lst (ds.map .int)) (l:=ds) (enc:= .int) (by simp![]) rfl (fun i s=> ∃js x3 x4 x5,s=[some (.v (.lst (ds.map .int))),some (.v (.lst (ls.map fun l=>.str (tx l)))),some (.m (.lst ((js.map z6).map zd))),x3,x4,x5]/\js.length=i/\∀j∈js,yE j.nm=true/\(0<=j.f/\j.f<10 ^ 11)/\(-1<=j.l/\j.l<10 ^ 11)/\(0<=j.w/\j.w<10 ^ 11)/\(0<=j.b/\j.b<10 ^ 11)) ⟨[],none,none,none,rfl,rfl,by simp⟩ ?_ ?_
 .rintro i c s hi ⟨js,x3,x4,x5,rfl,h1,h3⟩
  have hil:i<ds.length:=(Av.1 hi).1;obtain⟨l,hlm,el⟩:=JJ hm hp (c / 2);have c1:CMul 3 c:=AU ⟨by decide,by decide⟩
  have c2:CMul 7 c:=AU ⟨by decide,by decide⟩
  have tc:∀(s:S3) (h:H3) (a b c d e:V3),D5 s h (.x (.tup [a])) (.x (.tup [b,c,d,e]))=some (.v (.tup [a,b,c,d,e])):=fun s h a b c d e=>by
   unfold D5;exact Aa (show ([a]:List V3).length+[b,c,d,e].length<=sizeLine by show 5<=_;decide)
  have ap:∀{xs:List V3} {y:V3},xs.length<=100->yG xs [y]=some (xs++[y],.non):=fun hx=>mAppend_ok (by have:=yw;lia)
  have hxl:((js.map z6).map zd).length<=100:=by rw[Ad,Ad];lia
  have a1:=fun y=>ap (y:=y) hxl
  by_cases q:c / 19%4=0
  .refine⟨_,by (simp![DR,Ad,hm,hp,el,c1,c2,a1,tc,q])<;>rfl,js++[⟨l,nb c,-1,nb (c / 23+c),nb (c / 29+7*c)⟩],_,_,_,by rw[A9,A9];rfl,by simp[h1],fun p hp=>?_⟩
   rcases Aq.mp hp with hp|hp
   .exact h3 p hp
   .rw[A2]at hp
    subst hp;exact⟨hn l hlm,nb_b _,⟨by show (-1:Int)<= -1;decide,by show (-1:Int)<_;decide⟩,nb_b _,nb_b _⟩
  .refine⟨_,by (simp![DR,Ad,hm,hp,el,c1,c2,a1,tc,q])<;>rfl,js++[⟨l,nb c,nb (c / 17+3*c),nb (c / 23+c),nb (c / 29+7*c)⟩],_,_,_,by rw[A9,A9];rfl,by simp[h1],fun p hp=>?_⟩
   rcases Aq.mp hp with hp|hp
   .exact h3 p hp
   .rw[A2]at hp
    subst hp;have:=nb_b (c / 17+3*c);exact⟨hn l hlm,nb_b _,⟨by show -1<=nb _;lia,this.2⟩,nb_b _,nb_b _⟩
 .rintro s ⟨js,x3,x4,x5,rfl,h1,h3⟩
  exact⟨js,by (simp![])<;>rfl,⟨by lia,h3⟩,h1⟩
def Ph (n:Int) (h:H3):Dd [.int n] h=.ok (.v (.bl true)) h:=by
 simp![Dd,Ge]
def GQ {s:S3} {h:H3} {lo hi:Option Int} {xs:List V3} {p:P3} {a b:Po3} (ep:p s h=.ok (.x (.lst xs)) h) (ea:a s h=.ok lo h) (eb:b s h=.ok hi h):eSl p a b s h=.ok (.m (.lst (zH xs lo hi))) h:=by
 unfold eSl;simp only[ep,Res.bind,ea,eb];rfl
def Dk {α β:Type} (f:α->β) (xs:List α) (lo hi:Option Int):zH (xs.map f) lo hi=(zH xs lo hi).map f:=by
 unfold zH;rw[Ad,List.map_take,List.map_drop]
def GR {α:Type} {xs:List α} {lo hi:Option Int} {x:α} (h:x∈zH xs lo hi):x∈xs:=List.mem_of_mem_drop (List.mem_of_mem_take h)
def GS {α:Type} {xs:List α} {lo hi:Option Int}:(zH xs lo hi).length<=xs.length:=by unfold zH;rw[B3,List.length_drop];lia
def SpOk.cut {sp:List (Int×Int)} (h:SpOk sp) {lo hi:Option Int}:SpOk (zH sp lo hi):=⟨A1 GS h.len,fun p hp=>h.one p (GR hp)⟩
def PlanOk.cut {pl:List (Int×Int×List Nat)} (h:PlanOk pl) {lo hi:Option Int}:PlanOk (zH pl lo hi):=⟨A1 GS h.len,fun p hp=>h.one p (GR hp)⟩
def JoOk.cut {js:List Jo} (h:JoOk js) {lo hi:Option Int}:JoOk (zH js lo hi):=⟨A1 GS h.len,fun p hp=>h.one p (GR hp)⟩
def Ris.cut1 {sp:List (Int×Int)} (h:Ris (-2) sp):Ris (-2) (zH sp none (some 1)):=by
 rw[show zH sp none (some 1)=sp.take 1 from Oc sp 1]
 cases sp with
 |nil=>trivial
 |cons p r=>exact⟨h.1,h.2.1,h.2.2.1,trivial⟩
def GT {f:F3} {a b:Po3} {s:S3} {H0 H1 H2 G:H3} {xs ys:List V3} {p:P3} (ep:∀h,p s h=.ok (.x (.lst xs)) h) (es:∀h,eSl p a b s h=.ok (.m (.lst ys)) h) (e1:f [.lst xs] H0=.ok (.v (.bl true)) H1) (e2:f [.lst ys] H1=.ok (.v (.bl true)) H2) (e3:f [.lst []] H2=.ok (.v (.bl true)) G):
  sIf (tOr3 (tNot3 (tE (eCall f (aCons p aNil)))) (tOr3 (tNot3 (tE (eCall f (aCons (pE (eSl p a b)) aNil)))) (tNot3 (tE (eCall f (aCons (pE (eLst aNil)) aNil)))))) (sRet (eC (.bl false))) sSkip s H0=.nx s G:=by
 (simp![ep,es,e1,e2,e3])
def nuB:D3:=(sSeq (sSet 7 (eCall yY (aCons (pE (eB AW (aCons (pV 6) aNil))) aNil))) (sSeq (sFz 7) (sIf (tOr3 (tNot3 (tE (eCall Dd (aCons (pV 7) aNil)))) (tE (eOp yf (pV 7) (pV 6)))) (sRet (eC (.bl false))) sSkip)))
def Pi {i:Int} (hi:0<=i/\i<10 ^ 11) {x0 x1 x2 x3 x4 x5 x6 x7:Option Vl} (H:H3):gb (gN 6) nuB (.int i) [x0,x1,x2,x3,x4,x5,x6,x7] H=.nx [x0,x1,x2,x3,x4,x5,some (.v (.int i)),some (.v (.int i))] H:=by
 unfold nuB;have e1:∀s h,AW s h [.x (.int i)]=some (.v (.str (tx (it i)))):=fun s h=>GG (w:= .n i) (by show -1<=i/\i<_;lia) s h
 have q:∀s,yf s H (.x (.int i)) (.x (.int i))=some (.v (.bl false)):=fun s=>by
  unfold yf yJ;simp only[rdm,rdl,D2,decide_true,Ck,A0]
 (simp![e1,BB hi,Ph,q])
def Pj {ds:List Int} (hd:ds.length<=40) (h:H3) {x0 x1 x3 x4 x5 x6 x7:Option Vl}:DK [x0,x1,some (.v (.lst (ds.map .int))),x3,x4,x5,x6,x7] h=.ok (.m (.lst ((ds.map nb).map .int))) h:=by
 unfold DK;rw[Ax]
 refine BP (l:=ds) (x:= .lst (ds.map .int)) (enc:= .int) (fun s=> ∃a,s=[a]) _ (by simp![]) rfl (by lia) ⟨none,rfl⟩ ?_
 rintro c s hm ⟨a,rfl⟩;exact⟨_,_,by (simp![])<;>rfl,⟨_,rfl⟩,by (simp![DR])<;>rfl,rfl⟩
def Pk {ds:List Int} (hd:ds.length<=40) (h:H3) {x0 x1 x3 x4 x5:Option Vl}:∃y6 y7,Gf [x0,x1,some (.v (.lst (ds.map .int))),x3,x4,x5,none,none] h=.nx [x0,x1,some (.v (.lst (ds.map .int))),x3,x4,x5,y6,y7] h:=by
 have p1:CPow 10 11:=by decide
 have p2:(10:Int) ^ (11:Int).toNat=100000000000:=by decide
 have ad:∀s,zm s h (.x (.lst ((ds.map nb).map .int))) (.x (.lst [.int 0,.int (100000000000-1)]))=some (.m (.lst ((ds.map nb++[0,100000000000-1]).map .int))):=fun s=>by
  have hl:((ds.map nb).map V3.int).length+[V3.int 0,V3.int (100000000000-1)].length<=sizeLine:=by rw[Ad,Ad];have:=yw;show _+2<=_;lia
  unfold zm yW Dy oI Dz oCat;simp only[rdm,rdl,Aa hl,A9];rfl
 obtain⟨s',h',e,y6,y7,rfl,rfl⟩:=GC (g:=gN 6) (b:=nuB) (it:=(iL (pE (eOp zm (pE DK) (pE (eLst (aCons (kJ 0) (aCons (pE (eOp oSub (pE (eOp oPow (kJ 10) (kJ 11))) (kJ 1))) aNil)))))))) (s:=[x0,x1,some (.v (.lst (ds.map .int))),x3,x4,x5,none,none]) (h:=h) (l:=ds.map nb++[0,100000000000-1]) (enc:= .int) (its:=[.lst ((ds.map nb++[0,100000000000-1]).map .int)]) (ok:=fun _=>True) (by (simp![Pj hd,p1,p2,ad,iL,yM])<;>rfl) (fun i s h'=> ∃y6 y7,s=[x0,x1,some (.v (.lst (ds.map .int))),x3,x4,x5,y6,y7]/\h'=h) (fun _ _ _ _=>trivial) ⟨none,none,rfl,rfl⟩ (by
  rintro i n s h' hi ⟨y6,y7,rfl,rfl⟩;have hm:=Aj hi;have hb:0<=n/\n<10 ^ 11:=by
   rcases Aq.mp hm with hm|hm
   .obtain⟨c,_,rfl⟩:=Al.mp hm
    exact nb_b c
   .simp only[Ai,B2,Bk]at hm
    rcases hm with rfl|rfl<;>lia
  exact⟨_,_,Pi hb _,_,_,rfl,rfl⟩)
 exact⟨y6,y7,e⟩
def Pl (ns:List Int) (hl:ns.length<=63) (h:H3) {x1 x2 x3 x4 x5 x6 x7:Option Vl}:∃ds:List Int,ds.length<=40/\E8 [some (.v (.scr ns)),x1,x2,x3,x4,x5,x6,x7] h=.ok (.m (.lst (ds.map .int))) h:=by
 obtain⟨L,hL⟩:∃L:Int,(ns.length:Int)=L:=⟨_,rfl⟩;generalize hN:max 8 (min L 42)=N;have hNb:8<=N/\N<=42:=by lia
 refine⟨(List.range (N-2).toNat).map fun k:Nat=>cl ns (k+2),by rw[Ad,Cy];lia,?_⟩
 unfold E8;have q: -(2 ^ 62)<=(2:Int)/\(2:Int)<2 ^ 62/\ -(2 ^ 62)<=N/\N<2 ^ 62:=by lia
 rw[Ax]
 refine EG (l:=List.range (N-2).toNat) (enc:=fun k:Nat=>V3.int (2+(k:Int))) (its:=[]) (ok:=fun _=>True) (fun s=> ∃a,s=[a,some (.v (.scr ns))]) (V3.int∘fun k:Nat=>cl ns (k+2)) (by (simp![iR2,Ad,hL,hN,Aa q])<;>rfl) trivial (by rw[Cy];lia) ⟨none,rfl⟩ ?_
 rintro k s hk ⟨a,rfl⟩;have hk:=Br.mp hk;have e:=GP ns hl (k:=k+2) (by lia) h
 rw[show ((k+2:Nat):Int)=2+(k:Int) by lia]at e
 generalize 2+(k:Int)=t at*;exact⟨_,_,by (simp![])<;>rfl,⟨_,rfl⟩,by (simp![e])<;>rfl,rfl⟩
def law_yes (ns:List Int) (hns:ns.length<=63):Yes (f_law [.scr ns] []):=by
 unfold f_law Gg
 refine BL rfl ?_
 have c0:=GP ns hns (k:=0) (by decide)
 have c1:=GP ns hns (k:=1) (by decide)
 have c0:∀h,y0 [.scr ns,.int 0] h=.ok (.v (.int (cl ns 0))) h:=c0;have c1:∀h,y0 [.scr ns,.int 1] h=.ok (.v (.int (cl ns 1))) h:=c1;obtain⟨ls,en,hln,hn⟩:=OY (cl ns 0) (1+cl ns 1%6) (by lia) []
 refine zR (by (simp![c0,c1,en])<;>rfl) ?_
 obtain⟨ds,hd,ed⟩:=Pl ns hns [] (x1:=some (.m (.lst (ls.map fun l=>.str (tx l))))) (x2:=none) (x3:=none) (x4:=none) (x5:=none) (x6:=none) (x7:=none)
 refine zR (by (simp![ed])<;>rfl) ?_
 refine zR (by (simp![])<;>rfl) ?_
 obtain⟨sp,es,hs,hr,hsl⟩:=Pc ds hd []
 refine zR (by (simp![es])<;>rfl) ?_
 refine zR (by (simp![])<;>rfl) ?_
 have em:(sp.map zF).map zd=sp.map zL:=by rw[Ax];rfl
 rw[<-em];obtain⟨g1,r1⟩:=GM hs hr [];obtain⟨g2,r2⟩:=GM hs.cut hr.cut1 ([]++g1);obtain⟨g3,r3⟩:=GM (sp:=[]) ⟨by decide,fun p hp=>by cases hp⟩ trivial ([]++g1++g2)
 rw[<-Dk,<-Dk]at r2;generalize []++g1=G1 at*;generalize G1++g2=G2 at*;generalize G2++g3=G3 at*;generalize (sp.map zF).map zd=X at*
 refine zR (GT (fun h=>?_) (fun h=>GQ ?_ ?_ ?_) r1 r2 r3) ?_
 .rfl
 .rfl
 .rfl
 .rfl
 refine zR (by (simp![])<;>rfl) ?_
 refine zR (by (simp![])<;>rfl) ?_
 have hlb:0<ls.length/\ls.length<=10:=by lia
 obtain⟨pl,ep,hp,_⟩:=Pe ds hd hlb hn G3
 refine zR (by (simp![ep])<;>rfl) ?_
 refine zR (by (simp![])<;>rfl) ?_
 obtain⟨g4,r4⟩:=GN hp G3;obtain⟨g5,r5⟩:=GN (hp.cut (lo:=some (-1)) (hi:=none)) (G3++g4);obtain⟨g6,r6⟩:=GN (pl:=[]) ⟨by decide,fun p hp=>by cases hp⟩ (G3++g4++g5)
 rw[<-Dk,<-Dk]at r5;generalize G3++g4=G4 at*;generalize G4++g5=G5 at*;generalize G5++g6=G6 at*;generalize (pl.map zU).map zd=Y at*
 refine zR (GT (fun h=>?_) (fun h=>GQ ?_ ?_ ?_) r4 r5 r6) ?_
 .rfl
 .rfl
 .rfl
 .rfl
 refine zR (by (simp![])<;>rfl) ?_
 refine zR (by (simp![])<;>rfl) ?_
 obtain⟨js,ej,hj,_⟩:=Pg ds hd hlb hn G6
 refine zR (by (simp![ej])<;>rfl) ?_
 refine zR (by (simp![])<;>rfl) ?_
 obtain⟨g7,r7⟩:=GO hj G6;obtain⟨g8,r8⟩:=GO (hj.cut (lo:=some 1) (hi:=some 2)) (G6++g7);obtain⟨g9,r9⟩:=GO (pl:=[]) ⟨by decide,fun p hp=>by cases hp⟩ (G6++g7++g8)
 rw[<-Dk,<-Dk]at r8;generalize G6++g7=G7 at*;generalize G7++g8=G8 at*;generalize G8++g9=G9 at*;generalize (js.map z6).map zd=Z at*
 refine zR (GT (fun h=>?_) (fun h=>GQ ?_ ?_ ?_) r7 r8 r9) ?_
 .rfl
 .rfl
 .rfl
 .rfl
 refine zR (by (simp![])<;>rfl) ?_
 obtain⟨y6,y7,e⟩:=Pk hd G9 (x0:=some (.v (.scr ns))) (x1:=some (.v (.lst (ls.map fun l=>.str (tx l))))) (x3:=some (.v (.lst X))) (x4:=some (.v (.lst Y))) (x5:=some (.v (.lst Z)))
 refine zR e ?_
 exact⟨G9,by (simp![])<;>rfl⟩
end My
namespace My
open PySem PySem.Spec PyProof.Rows L2 L3
def law_true:∀ns:List Int,ns.length<=63->∃h',f_law [.scr ns] []=.ok (.v (.bl true)) h':=law_yes
def txt {K:FG} {mg:Str->Option Value} {h:Heap} (X:K.In h) (G:h.Ns mainGlobals mg) (S:L4.seenK ask K=L4.good PySem.Challenge.pw_dueyard_k81_texts_told_and_read ask):∃_:Txt K mg,True:=by
 obtain⟨f0,d0,a0,F0⟩:=L4.def_at S 0 rfl;obtain⟨f1,d1,a1,F1⟩:=L4.def_at S 1 rfl;obtain⟨f2,d2,a2,F2⟩:=L4.def_at S 2 rfl;obtain⟨f3,d3,a3,F3⟩:=L4.def_at S 3 rfl;obtain⟨f4,d4,a4,F4⟩:=L4.def_at S 4 rfl;obtain⟨f5,d5,a5,F5⟩:=L4.def_at S 5 rfl;obtain⟨f6,d6,a6,F6⟩:=L4.def_at S 6 rfl;obtain⟨f7,d7,a7,F7⟩:=L4.def_at S 7 rfl;obtain⟨f8,d8,a8,F8⟩:=L4.def_at S 8 rfl;obtain⟨f9,d9,a9,F9⟩:=L4.def_at S 9 rfl;obtain⟨f10,d10,a10,F10⟩:=L4.def_at S 10 rfl;obtain⟨f11,d11,a11,F11⟩:=L4.def_at S 11 rfl;obtain⟨f12,d12,a12,F12⟩:=L4.def_at S 12 rfl;obtain⟨f13,d13,a13,F13⟩:=L4.def_at S 13 rfl;obtain⟨f14,d14,a14,F14⟩:=L4.def_at S 14 rfl;obtain⟨f15,d15,a15,F15⟩:=L4.def_at S 15 rfl;obtain⟨f16,d16,a16,F16⟩:=L4.def_at S 16 rfl;obtain⟨f17,d17,a17,F17⟩:=L4.def_at S 17 rfl;obtain⟨f18,d18,a18,F18⟩:=L4.def_at S 18 rfl;obtain⟨f19,d19,a19,F19⟩:=L4.def_at S 19 rfl;obtain⟨f20,d20,a20,F20⟩:=L4.def_at S 20 rfl;obtain⟨f21,d21,a21,F21⟩:=L4.def_at S 21 rfl;obtain⟨f22,d22,a22,F22⟩:=L4.def_at S 22 rfl;obtain⟨f23,d23,a23,F23⟩:=L4.def_at S 23 rfl;obtain⟨f24,d24,a24,F24⟩:=L4.def_at S 24 rfl;obtain⟨f25,d25,a25,F25⟩:=L4.def_at S 25 rfl;obtain⟨f26,d26,a26,F26⟩:=L4.def_at S 26 rfl;obtain⟨f27,d27,a27,F27⟩:=L4.def_at S 27 rfl;obtain⟨f28,d28,a28,F28⟩:=L4.def_at S 28 rfl;obtain⟨t0,v0⟩:=L4.str_at S 0 rfl;obtain⟨t1,v1⟩:=L4.str_at S 1 rfl;obtain⟨t2,v2⟩:=L4.int_at S 2 rfl;obtain⟨t3,v3⟩:=L4.str_at S 3 rfl;obtain⟨t4,v4⟩:=L4.int_at S 4 rfl;obtain⟨t5,v5⟩:=L4.str_at S 5 rfl;exact⟨⟨f0,d0,⟨F0,L4.b2 F0 fun _ _ _ _ _ _ _ _=>rfl,Ah X G a0⟩,f1,d1,⟨F1,L4.b1 F1 fun _ _ _ _ _ _ _=>rfl,Ah X G a1⟩,f2,d2,⟨F2,L4.b1 F2 fun _ _ _ _ _ _ _=>rfl,Ah X G a2⟩,f3,d3,⟨F3,L4.b2 F3 fun _ _ _ _ _ _ _ _=>rfl,Ah X G a3⟩,f4,d4,⟨F4,L4.b2 F4 fun _ _ _ _ _ _ _ _=>rfl,Ah X G a4⟩,f5,d5,⟨F5,L4.b2 F5 fun _ _ _ _ _ _ _ _=>rfl,Ah X G a5⟩,f6,d6,⟨F6,L4.b1 F6 fun _ _ _ _ _ _ _=>rfl,Ah X G a6⟩,f7,d7,⟨F7,L4.b1 F7 fun _ _ _ _ _ _ _=>rfl,Ah X G a7⟩,f8,d8,⟨F8,L4.b3 F8 fun _ _ _ _ _ _ _ _ _=>rfl,Ah X G a8⟩,f9,d9,⟨F9,L4.b1 F9 fun _ _ _ _ _ _ _=>rfl,Ah X G a9⟩,f10,d10,⟨F10,L4.b1 F10 fun _ _ _ _ _ _ _=>rfl,Ah X G a10⟩,f11,d11,⟨F11,L4.b2 F11 fun _ _ _ _ _ _ _ _=>rfl,Ah X G a11⟩,f12,d12,⟨F12,L4.b1 F12 fun _ _ _ _ _ _ _=>rfl,Ah X G a12⟩,f13,d13,⟨F13,L4.b1 F13 fun _ _ _ _ _ _ _=>rfl,Ah X G a13⟩,f14,d14,⟨F14,L4.b1 F14 fun _ _ _ _ _ _ _=>rfl,Ah X G a14⟩,f15,d15,⟨F15,L4.b1 F15 fun _ _ _ _ _ _ _=>rfl,Ah X G a15⟩,f16,d16,⟨F16,L4.b1 F16 fun _ _ _ _ _ _ _=>rfl,Ah X G a16⟩,f17,d17,⟨F17,L4.b2 F17 fun _ _ _ _ _ _ _ _=>rfl,Ah X G a17⟩,f18,d18,⟨F18,L4.b1 F18 fun _ _ _ _ _ _ _=>rfl,Ah X G a18⟩,f19,d19,⟨F19,L4.b1 F19 fun _ _ _ _ _ _ _=>rfl,Ah X G a19⟩,f20,d20,⟨F20,L4.b1 F20 fun _ _ _ _ _ _ _=>rfl,Ah X G a20⟩,f21,d21,⟨F21,L4.b1 F21 fun _ _ _ _ _ _ _=>rfl,Ah X G a21⟩,f22,d22,⟨F22,L4.b1 F22 fun _ _ _ _ _ _ _=>rfl,Ah X G a22⟩,f23,d23,⟨F23,L4.b1 F23 fun _ _ _ _ _ _ _=>rfl,Ah X G a23⟩,f24,d24,⟨F24,L4.b1 F24 fun _ _ _ _ _ _ _=>rfl,Ah X G a24⟩,f25,d25,⟨F25,L4.b1 F25 fun _ _ _ _ _ _ _=>rfl,Ah X G a25⟩,f26,d26,⟨F26,L4.b1 F26 fun _ _ _ _ _ _ _=>rfl,Ah X G a26⟩,f27,d27,⟨F27,L4.b1 F27 fun _ _ _ _ _ _ _=>rfl,Ah X G a27⟩,f28,d28,⟨F28,L4.b1 F28 fun _ _ _ _ _ _ _=>rfl,Ah X G a28⟩,Bb X G (L4.bare_at S 0 rfl),Bb X G (L4.bare_at S 1 rfl),Bb X G (L4.bare_at S 2 rfl),Bb X G (L4.bare_at S 3 rfl),Bb X G (L4.bare_at S 4 rfl),Bb X G (L4.bare_at S 5 rfl),Bb X G (L4.bare_at S 6 rfl),Bb X G (L4.bare_at S 7 rfl),Bb X G (L4.bare_at S 8 rfl),Bb X G (L4.bare_at S 9 rfl),Bb X G (L4.bare_at S 10 rfl),Bb X G (L4.bare_at S 11 rfl),t0,Ah X G v0,t1,Ah X G v1,t2,Ah X G v2,t3,Ah X G v3,t4,Ah X G v4,t5,Ah X G v5⟩,trivial⟩
def d_law:PySem.DefRec:=⟨"law",Dq (zT 40),BR (zT 40),zy (zT 40),⟨172,0,188,15⟩⟩
end My
open PySem PySem.W PyProof.Rows
set_option maxRecDepth 100000 in
set_option maxHeartbeats 0 in
theorem PySem.Challenge.cw_dueyard_k81_texts_told_and_read_holds : PySem.Challenge.rw_dueyard_k81_texts_told_and_read.Holds := by
 w_on;o_law
 refine PySem.W.holds_open (q:=L4.lawView My.ask PySem.Challenge.pw_dueyard_k81_texts_told_and_read) (loose:=L4.looseOf PySem.Challenge.pw_dueyard_k81_texts_told_and_read) (Xt:=fun _=>true) (XP:=fun _ _=>True) (YP:=fun _ h=> ∃K:Frag,K.In h/\L4.seenK My.ask K=L4.good PySem.Challenge.pw_dueyard_k81_texts_told_and_read My.ask) (d:=My.d_law) (kwd:=[]) (N:=20000) (L4.left_one (good:=L4.good PySem.Challenge.pw_dueyard_k81_texts_told_and_read My.ask) (by kernel_rfl) (by decide) (fun _=>rfl) My.one) (fun w s e=>L4.seen_ok w s e) (fun w h h'=>L4.seen_keeps w h h') (fun _ _=>trivial) (fun _ _ _ _ _=>trivial) (by kernel_rfl) (by kernel_rfl) rfl (fun _ _=>recFacts_nil rfl) rfl (by assumption) (by decide+kernel) ⟨rfl,rfl,rfl,rfl,rfl,by decide+kernel⟩ ?hw ?hc
 case hw=>w_witness2
 case hc=>
  refine L4.walk_one (l:=PySem.Challenge.rw_dueyard_k81_texts_told_and_read) (n:=63) (k:=7) (x:="_law_script") (CX:=fun w=>L2.XT PySem.Challenge.rw_dueyard_k81_texts_told_and_read.prog w) (sp:=L3.spL) rfl (by decide) rfl ⟨rfl,by decide,by decide⟩ ?F (fun _ _ a ns hl hO hS=>⟨a,ns,rfl,hl,hS,hO,fun _=>rfl⟩) fun _ _ _ _ _ z=>L3.noX z
  intro w mg fa h K KX G S hmg;obtain⟨T,_⟩:=My.txt KX G S;have e:=hmg.symm.trans T.d_law.g;cases e;exact⟨T.fd_law,L4.binds_law T.d_law.F fun _ _ _ _ _ _ _=>rfl,fun base _ _=>(My.G_law (P:=PySem.Challenge.rw_dueyard_k81_texts_told_and_read.prog) (w:=w) (base:=base) T).imp (sp':=L3.spL K) fun vs H Q E h=>L3.spL_of (κ:=My.kx T) My.law_true h⟩
