import PyProof.Rows.All
import Wide.All
import OpenK.AllK
import Wide.FinOn
import Lean
import PyProof.EqAt
import PyProof.EqKinds
import PyProof.TupleCall
import KE.KSortTup
import KE.KUnpack
import PyProof.ExcBaseAll.ValueError
import KE.KTryMore
import PyProof.Rows.Catch
import PyProof.NsDelKeeps
import KE.KIsAll
import PyProof.ExcArgsOwn
import PyProof.InstStore
import PyProof.DictRoadsH
import PyProof.EnumFor
import PyProof.EnumStmt
import PyProof.EnumMake
import PyProof.MaxThree
import KE.KDictList
import PyProof.NeKinds
import KE.KEqDict
import KE.KxText
import PyProof.WalkInts
import PyProof.SeqI3
import KE.KIntText
import KE.KRevIter
import PyProof.DictIter
import PyProof.DictWalks
import PyProof.TupleOfSeq
import PyProof.FString5
import PyProof.Calls
import PySem.Challenge.RW_dueyard_k13_loads_refused
universe u
noncomputable section
theorem zR {α:Type u} {l:List α} {i:Nat} (h:i<l.length):l[i]?=some l[i]:=List.getElem?_eq_getElem h
theorem zb {a b:Prop} (h:a) (k:b):a∧b:=⟨h,k⟩
set_option Elab.async false
set_option linter.all false
set_option maxRecDepth 100000
namespace L2
open PySem PySem.Spec PyProof.Rows
abbrev yt:=Sum Int Str
def zqe:yt→Value→Bool
 | .inl k,v=>Value.isInt k v
 | .inr x,v=>Value.isStrOf x v
def keyH (w:World):yt→Int
 | .inl k=>hashInt k
 | .inr x=>hashStr w x
theorem za6: ∀{k:yt} {v:Value},zqe k v=true→(∃i t,k=Sum.inl i∧v=Value.int i t)∨(∃x t,k=Sum.inr x∧v=Value.str x t)
 | .inl i,v,h=>by
  obtain ⟨t,e⟩:=Value.isInt_shape (k:=i) (v:=v) h
  exact .inl ⟨i,t,rfl,e⟩
 | .inr x,v,h=>by
  obtain ⟨t,e⟩:=Value.isStrOf_shape (x:=x) (v:=v) h
  exact .inr ⟨x,t,rfl,e⟩
theorem zri (a b:Int):decide ((Sum.inl a:yt)=Sum.inl b)=(a==b):=by
 by_cases e:a=b
 ·subst e;simp
 ·have h: ¬(Sum.inl a:yt)=Sum.inl b:=fun q=>e (Sum.inl.inj q)
  rw [decide_eq_false h]
  exact (beq_eq_false_iff_ne.mpr e).symm
theorem zq3 (a b:Str):decide ((Sum.inr a:yt)=Sum.inr b)=decide (a=b):=by
 by_cases e:a=b
 ·subst e;simp
 ·have h: ¬(Sum.inr a:yt)=Sum.inr b:=fun q=>e (Sum.inr.inj q)
  rw [decide_eq_false h,decide_eq_false e]
theorem zq1 (a:Int) (b:Str):decide ((Sum.inl a:yt)=Sum.inr b)=false:=decide_eq_false (fun q=>nomatch q)
theorem zrn (a:Str) (b:Int):decide ((Sum.inr a:yt)=Sum.inl b)=false:=decide_eq_false (fun q=>nomatch q)
def zdn (prog:Program) (w:World):PySem.KeyKind prog w yt where
 is:=zqe
 hash:=keyH w
 inj:=fun v a b ha hb=>by
  rcases za6 ha with ⟨i,t,rfl,rfl⟩ | ⟨x,t,rfl,rfl⟩
  ·rcases za6 hb with ⟨j,u,rfl,e⟩ | ⟨y,u,rfl,e⟩
   ·injection e with e1 _;rw [e1]
   ·exact nomatch e
  ·rcases za6 hb with ⟨j,u,rfl,e⟩ | ⟨y,u,rfl,e⟩
   ·exact nomatch e
   ·injection e with e1 _;rw [e1]
 byValue:=fun k v h=>by
  rcases za6 h with ⟨i,t,rfl,rfl⟩ | ⟨x,t,rfl,rfl⟩ <;> rfl
 pyHash:=fun hv h=>by
  rcases za6 hv with ⟨i,t,rfl,rfl⟩ | ⟨x,t,rfl,rfl⟩
  ·exact wpAny_pyHash_int h
  ·exact wpAny_pyHash_str h
 eqBool:=fun hu hv h=>by
  rcases za6 hu with ⟨i,t,rfl,rfl⟩ | ⟨x,t,rfl,rfl⟩
  ·rcases za6 hv with ⟨j,u,rfl,rfl⟩ | ⟨y,u,rfl,rfl⟩
   ·rw [zri] at h;exact wpAny_eqBool_int h
   ·rw [zq1] at h;exact SeqAt.EqAt.int_str i t y u _ _ _ _ h
  ·rcases za6 hv with ⟨j,u,rfl,rfl⟩ | ⟨y,u,rfl,rfl⟩
   ·rw [zrn] at h;exact SeqAt.EqAt.str_int x t j u _ _ _ _ h
   ·rw [zq3] at h;exact wpAny_eqBool_str h
 «strs» :=fun k x t v h=>by
  rcases za6 h with ⟨i,u,rfl,e⟩ | ⟨y,u,rfl,e⟩
  ·exact nomatch e
  ·injection e with e1 _
   subst e1
   cases v <;> rfl
inductive V where
 | non | bl (b:Bool) | int (i:Int) | str (x:Str) | byt (b:Array UInt8) | flt (b:UInt64) | ref (a:Addr) | ty (n:String)
 deriving DecidableEq
def RelV:V→Value→Prop
 | .non,u=>u=Value.none
 | .bl b,u=>u=Value.bool b
 | .int i,u=> ∃t,u=Value.int i t
 | .str x,u=> ∃t,u=Value.str x t
 | .byt b,u=> ∃t,u=Value.bytes b t
 | .flt b,u=> ∃t,u=Value.float b t
 | .ref a,u=>u=Value.ref a
 | .ty n,u=>u=Value.type n
abbrev Vals:List V→List Value→Prop:=Paired RelV
theorem Vals.length {xs:List V} {us:List Value} (r:Vals xs us):xs.length=us.length:=Paired.length r
theorem Vals.get: ∀{xs:List V} {us:List Value} {i:Nat} {x:V},Vals xs us→xs[i]? =some x→∃u,us[i]? =some u∧RelV x u
 | _,_,_,_,.nil,e=>by simp at e
 | _,_,0,_,.cons r _,e=>by simp at e;subst e;exact ⟨_,rfl,r⟩
 | _,_,i+1,x,.cons _ t,e=>by
  obtain ⟨u,h1,h2⟩:=Vals.get (i:=i) (x:=x) t (by simpa using e)
  exact ⟨u,by simpa using h1,h2⟩
theorem Vals.set {x:V} {u:Value} (r:RelV x u): ∀{xs:List V} {us:List Value} (i:Nat),Vals xs us→Vals (xs.set i x) (us.set i u)
 | _,_,_,.nil=> .nil
 | _,_,0,.cons _ t=> .cons r t
 | _,_,i+1,.cons q t=> .cons q (Vals.set r i t)
theorem Vals.append: ∀{xs ys:List V} {us ws:List Value},Vals xs us→Vals ys ws→Vals (xs++ys) (us++ws)
 | _,_,_,_,.nil,s=>s
 | _,_,_,_,.cons r t,s=> .cons r (Vals.append t s)
theorem Vals.take: ∀{xs:List V} {us:List Value} (n:Nat),Vals xs us→Vals (xs.take n) (us.take n)
 | _,_,0,_=> .nil
 | _,_,_+1,.nil=> .nil
 | _,_,n+1,.cons r t=> .cons r (Vals.take n t)
theorem Vals.drop: ∀{xs:List V} {us:List Value} (n:Nat),Vals xs us→Vals (xs.drop n) (us.drop n)
 | _,_,0,r=>r
 | _,_,_+1,.nil=> .nil
 | _,_,n+1,.cons _ t=>Vals.drop n t
def RelO:Option V→Option Value→Prop
 | some v,some u=>RelV v u
 | none,none=>True
 | _,_=>False
def KV {κ:Type}:List (κ×V)→List (κ×Value)→Prop:=Paired fun (p:κ×V) (q:κ×Value)=>p.1=q.1∧RelV p.2 q.2
def kV:yt→V
 | .inl i=> .int i
 | .inr x=> .str x
inductive MK where
 | one (k:yt)
 | tup (ks:List yt)
 deriving DecidableEq
def MK.hash (P:Program) (w:World):MK→Int
 | .one k=>(zdn P w).hash k
 | .tup ks=>tupleKeyHash (zdn P w) ks
def entM (P:Program) (w:World) (x:MK×Value×Value):DictEntry:=⟨x.1.hash P w,x.2.1,x.2.2⟩
inductive HO where
 | lst (xs:List V)
 | tup (xs:List V)
 | dK (kvs:List (yt×V)) | dT (kvs:List (MK×V))
 | set (S:Int→Bool) (n:Nat)
 | ins (C dx:Addr) (fs:List (Str×V))
 | own (x:Addr)
 | xd (fs:List (Str×V))
 | met (f x:Addr)
 | rng (lo hi:Int)
 | frz (o:Obj) (u:HO)
 | tbl (ps:Array Value)
 | ext (φ:Heap→Prop)
abbrev Hp:=Addr→Option HO
def KyV (H:Hp):MK→Value→Prop
 | .one k,u=>RelV (kV k) u
 | .tup ks,u=> ∃b,u= .ref b∧H b=some (.tup (ks.map kV))
theorem KyV.mono {H H':Hp} (ht: ∀b xs,H b=some (.tup xs)→H' b=some (.tup xs)): ∀{k:MK} {u:Value},KyV H k u→KyV H' k u
 | .one _,_,h=>h
 | .tup _,_,⟨b,e,q⟩=>⟨b,e,ht _ _ q⟩
def zi (H:Hp) (a:Addr) (o:HO):Hp:=fun b=>if b=a then some o else H b
theorem zX {H:Hp} {a:Addr} {o:HO}:zi H a o a=some o:=by unfold zi;rw [if_pos rfl]
theorem zv {H:Hp} {a b:Addr} {o:HO} (h:b≠a):zi H a o b=H b:=by unfold zi;rw [if_neg h]
theorem zjh {H:Hp} {a:Addr} {o u:HO}:zi (zi H a o) a u=zi H a u:=by
 funext b;unfold zi;split <;> rfl
theorem yG {H:Hp} {a b:Addr} {o:HO} (h:H a=some o) (h':H b=none):a≠b:=by
 intro e;subst e;rw [h] at h';cases h'
section
variable (P:Program) (w:World)
def ObjOk (H:Hp) (h:Heap) (a:Addr):HO→Prop
 | .lst xs=>xs.length≤sizeLine∧∃(its:List Value) (n:Nat),Vals xs its∧h.get? a=some {cls:= .type "list",data:= .seq its.toArray n}
 | .tup xs=>xs.length≤sizeLine∧∃its:List Value,Vals xs its∧IsTup h a its.toArray
 | .dK kvs=>kvs.length≤sizeLine∧(a==sysModules)=false∧∃vs,KV kvs vs∧h.DictOf (zdn P w) a vs
 | .dT kvs=>kvs.length≤sizeLine∧(a==sysModules)=false∧∃xs:List (MK×Value×Value),Paired (fun (p:MK×V) (q:MK×Value×Value)=>p.1=q.1∧KyV H p.1 q.2.1∧RelV p.2 q.2.2) kvs xs∧
  ∃o es ep,h.get? a=some o∧o.ExactDict∧o.data= .dict es ep∧es.toList=xs.map (entM P w)∧(xs.map (·.1)).Nodup∧ep=xs.length
 | .set S n=>h.SetOf (intKind P w) a S n
 | .ins C dx fs=>H dx=some (.own a)∧fs.length≤1000∧dx≠a∧h.get? a=some (PySem.W.instObj C dx)∧
  ∃mA,h.Ns1 dx mA∧(∀f,RelO (fs.lookup f) (mA f))∧PySem.Within mA (fs.map (·.1))
 | .own _=> ∃o,h.get? a=some o
 | .xd fs=> ∃mA,h.Ns1 a mA∧∀f,RelO (fs.lookup f) (mA f)
 | .rng lo hi=> ∃t u v,h.get? a=some {cls:= .type "range",data:= .fields #[.int lo t,.int hi u,.int 1 v]}
 | .frz o u=>h.get? a=some o∧ObjOk H h a u
 | .tbl ps=>h.get? a=some {cls:= .none,data:= .fields ps}
 | .met f x=>h.get? a=some (PySem.W.methodObj (.ref f) (.ref x))
 | .ext φ=>φ h∧(∃o,h.get? a=some o)∧∀h1 h2:Heap,φ h1→(∀o,h1.get? a=some o→h2.get? a=some o)→φ h2
def HOk (H:Hp) (h:Heap):Prop:=∀a o,H a=some o→ObjOk P w H h a o
end
section
variable {P:Program} {w:World} {H H':Hp} {h h':Heap} {a:Addr} {o:HO}
theorem ObjOk.lt (x:ObjOk P w H h a o):a < h.objs.size:=by
 cases o with
 | lst xs=>obtain ⟨_,_,_,_,e⟩:=x;exact Heap.lt_size e
 | tup xs=>obtain ⟨_,_,_,p⟩:=x;exact p.lt
 | dK kvs=>obtain ⟨_,_,_,_,o,_,_,e,_⟩:=x;exact Heap.lt_size e
 | dT kvs=>obtain ⟨_,_,_,_,o,_,_,e,_⟩:=x;exact Heap.lt_size e
 | set S n=>obtain ⟨o,_,_,_,e,_⟩:=x;exact Heap.lt_size e
 | ins C dx fs=>obtain ⟨_,_,_,e,_⟩:=x;exact Heap.lt_size e
 | own y=>obtain ⟨_,e⟩:=x;exact Heap.lt_size e
 | xd fs=>obtain ⟨_,⟨_,_,_,e,_⟩,_⟩:=x;exact Heap.lt_size e
 | rng lo hi=>obtain ⟨_,_,_,e⟩:=x;exact Heap.lt_size e
 | frz ob u=>obtain ⟨e,_⟩:=x;exact Heap.lt_size e
 | tbl ps=>exact Heap.lt_size (show h.get? a=some _ from x)
 | met f y=>exact Heap.lt_size (show h.get? a=some _ from x)
 | ext φ=>obtain ⟨_,⟨_,e⟩,_⟩:=x;exact Heap.lt_size e
theorem Paired.mapP {α β:Type} {F G:α→β→Prop}: ∀{l₁:List α} {l₂:List β},Paired F l₁ l₂→(∀a b,F a b→G a b)→Paired G l₁ l₂
 | _,_,.nil,_=> .nil
 | _,_,.cons r t,f=> .cons (f _ _ r) (Paired.mapP t f)
theorem ObjOk.stay (x:ObjOk P w H h a o) (k: ∀b u,(b=a∨H b=some (.own a))→h.get? b=some u→h'.get? b=some u)
  (ho: ∀b,H b=some (.own a)→H' b=some (.own a)) (ht: ∀b xs,H b=some (.tup xs)→H' b=some (.tup xs)):ObjOk P w H' h' a o:=by
 induction o with
 | lst xs=>obtain ⟨z,its,n,r,e⟩:=x;exact ⟨z,its,n,r,k _ _ (.inl rfl) e⟩
 | tup xs=>obtain ⟨z,its,r,ob,e,c⟩:=x;exact ⟨z,its,r,ob,k _ _ (.inl rfl) e,c⟩
 | dK kvs=>obtain ⟨z,y,vs,r,ob,es,ep,e,c⟩:=x;exact ⟨z,y,vs,r,ob,es,ep,k _ _ (.inl rfl) e,c⟩
 | dT kvs=>
  obtain ⟨z,y,xs,r,ob,es,ep,e,c⟩:=x
  exact ⟨z,y,xs,Paired.mapP r fun p q z=>⟨z.1,z.2.1.mono ht,z.2.2⟩,ob,es,ep,k _ _ (.inl rfl) e,c⟩
 | set S n=>obtain ⟨ob,es,ep,t,e,c⟩:=x;exact ⟨ob,es,ep,t,k _ _ (.inl rfl) e,c⟩
 | ins C dx fs=>
  obtain ⟨d,z,ne,e,mA,⟨od,es,ep,e2,c⟩,r⟩:=x
  exact ⟨ho _ d,z,ne,k _ _ (.inl rfl) e,mA,⟨od,es,ep,k _ _ (.inr d) e2,c⟩,r⟩
 | own y=>obtain ⟨ob,e⟩:=x;exact ⟨ob,k _ _ (.inl rfl) e⟩
 | xd fs=>obtain ⟨mA,⟨od,es,ep,e,c⟩,r⟩:=x;exact ⟨mA,⟨od,es,ep,k _ _ (.inl rfl) e,c⟩,r⟩
 | rng lo hi=>obtain ⟨t,u,v,e⟩:=x;exact ⟨t,u,v,k _ _ (.inl rfl) e⟩
 | frz ob u ih=>obtain ⟨e,q⟩:=x;exact ⟨k _ _ (.inl rfl) e,ih q⟩
 | tbl ps=>
  have e:h.get? a=some {cls:= .none,data:= .fields ps}:=x
  show h'.get? a=some {cls:= .none,data:= .fields ps}
  exact k a _ (.inl rfl) e
 | met f y=>
  have e:h.get? a=some (PySem.W.methodObj (.ref f) (.ref y)):=x
  show h'.get? a=some (PySem.W.methodObj (.ref f) (.ref y))
  exact k a _ (.inl rfl) e
 | ext φ=>obtain ⟨p,⟨o,e⟩,st⟩:=x;exact ⟨st _ _ p fun o q=>k _ _ (.inl rfl) q,⟨o,k _ _ (.inl rfl) e⟩,st⟩
theorem HOk.lt (x:HOk P w H h) (e:H a=some o):a < h.objs.size:=(x a o e).lt
theorem HOk.fresh (x:HOk P w H h) (e:h.objs.size≤a):H a=none:=by
 cases q:H a with
 | none=>rfl
 | some u=>exact absurd (Nat.lt_of_lt_of_le (x.lt q) e) (Nat.lt_irrefl _)
theorem HOk.kept (x:HOk P w H h) (k: ∀b u,h.get? b=some u→h'.get? b=some u):HOk P w H h':=fun a o e=>
 (x a o e).stay (fun b u _ q=>k b u q) (fun _ q=>q) fun _ _ q=>q
theorem HOk.laid (x:HOk P w H h) (k: ∀b u,h.get? b=some u→h'.get? b=some u) (hp:h.objs.size≤a) (new:ObjOk P w (zi H a o) h' a o):HOk P w (zi H a o) h':=fun b u e=>by
 have hn:=x.fresh hp
 by_cases hb:b=a
 ·subst hb;rw [zX] at e;cases e;exact new
 ·rw [zv hb] at e
  exact (x b u e).stay (fun c v _ q=>k c v q) (fun c q=>by rw [zv (yG q hn)];exact q) fun c xs q=>by rw [zv (yG q hn)];exact q
end
def Rd (H:Hp) (a:Addr) (u:HO):Prop:=H a=some u∨∃o,H a=some (.frz o u)
theorem Rd.ok {P:Program} {w:World} {H:Hp} {h:Heap} {a:Addr} {u:HO} (r:Rd H a u) (x:HOk P w H h):ObjOk P w H h a u:=by
 rcases r with r | ⟨o,r⟩
 ·exact x a u r
 ·obtain ⟨_,q⟩:=x a _ r
  exact q
def Mut:Option HO→Prop
 | some (.lst _)=>True
 | some (.dK _)=>True
 | some (.dT _)=>True
 | some (.set _ _)=>True
 | some (.ins _ _ _)=>True
 | some (.ext _)=>True
 | _=>False
section
variable {P:Program} {w:World} {H:Hp} {h h':Heap} {x e:Addr} {o':HO}
theorem HOk.write (ok:HOk P w H h) (mu:Mut (H x)) (he:e=x∨H e=some (.own x)) (k: ∀b u,b≠e→h.get? b=some u→h'.get? b=some u) (heo: ∃u,h'.get? e=some u)
  (new:ObjOk P w (zi H x o') h' x o'):HOk P w (zi H x o') h':=fun b u q=>by
 have nown: ∀c y,H c=some (.own y)→c≠x:=fun c y r z=>by subst z;rw [r] at mu;exact mu
 have ntup: ∀c xs,H c=some (.tup xs)→c≠x:=fun c xs r z=>by subst z;rw [r] at mu;exact mu
 by_cases hb:b=x
 ·subst hb;rw [zX] at q;cases q;exact new
 ·rw [zv hb] at q
  by_cases hbe:b=e
  ·have q':H b=some (.own x):=by
    rcases he with z | z
    ·exact absurd (hbe.trans z) hb
    ·rw [hbe];exact z
   rw [q] at q';cases q'
   obtain ⟨v,hv⟩:=heo
   exact ⟨v,by rw [hbe];exact hv⟩
  ·refine (ok b u q).stay (fun c v hc r=>k c v ?_ r) (fun c r=>by rw [zv (nown c b r)];exact r) fun c xs r=>by rw [zv (ntup c xs r)];exact r
   rcases hc with rfl | hc
   ·exact hbe
   ·rintro rfl
    rcases he with z | z
    ·exact nown c b hc z
    ·rw [hc] at z;cases z;exact hb rfl
end
structure Un (fs ex:List Addr) (H H':Hp) (h h':Heap):Prop where
 keep: ∀b o,h.get? b=some o→H b=none→b∉fs→b∉ex→h'.get? b=some o
 slot: ∀b o,h.get? b=some o→H b=none→b∈fs→b∉ex→∃sl,h'.get? b=some {o with slots:=sl}
 free: ∀b o,h.get? b=some o→H b=none→b∉ex→H' b=none
 there: ∀b o,h.get? b=some o→b∉ex→∃o',h'.get? b=some o'
 tups: ∀b xs,H b=some (.tup xs)→H' b=some (.tup xs)
 frzs: ∀b o u,H b=some (.frz o u)→H' b=some (.frz o u)
 tbls: ∀b ps,H b=some (.tbl ps)→∃more,H' b=some (.tbl (ps++more))
section
variable {fs fs' ex ex':List Addr} {H H1 H2:Hp} {h h1 h2 h':Heap} {a x e:Addr} {o:HO}
theorem Un.any (u:Un fs ex H H1 h h1) {b:Addr} {ob:Obj} (q:h.get? b=some ob) (n:H b=none) (hx:b∉ex): ∃sl,h1.get? b=some {ob with slots:=sl}:=by
 by_cases hb:b∈fs
 ·exact u.slot b ob q n hb hx
 ·exact ⟨ob.slots,u.keep b ob q n hb hx⟩
theorem Un.kept (k: ∀b u,h.get? b=some u→h'.get? b=some u):Un fs ex H H h h':=
 ⟨fun b ob q _ _ _=>k b ob q,fun b ob q _ _ _=>⟨ob.slots,k b ob q⟩,fun _ _ _ n _=>n,fun b ob q _=>⟨ob,k b ob q⟩,fun _ _ q=>q,fun _ _ _ q=>q,fun _ ps q=>⟨#[],by rw [q];simp⟩⟩
theorem Un.refl:Un fs ex H H h h:=Un.kept fun _ _ q=>q
theorem Un.laid (k: ∀b u,h.get? b=some u→h'.get? b=some u) (hp:h.objs.size≤a) (hn:H a=none):Un fs ex H (zi H a o) h h' where
 keep:=fun b u q _ _ _=>k b u q
 slot:=fun b u q _ _ _=>⟨u.slots,k b u q⟩
 free:=fun b u q n _=>by rw [zv (Nat.ne_of_lt (Nat.lt_of_lt_of_le (Heap.lt_size q) hp))];exact n
 there:=fun b u q _=>⟨u,k b u q⟩
 tups:=fun b xs q=>by rw [zv (yG q hn)];exact q
 frzs:=fun b u xs q=>by rw [zv (yG q hn)];exact q
 tbls:=fun b ps q=>⟨#[],by rw [zv (yG q hn),q];simp⟩
theorem Un.write (mu:Mut (H x)) (he:e=x∨H e=some (.own x)) (k: ∀b u,b≠e→h.get? b=some u→h'.get? b=some u) (heo: ∃u,h'.get? e=some u):Un fs ex H (zi H x o) h h':=by
 have hx: ∀b,H b=none→b≠x:=fun b n z=>by subst z;rw [n] at mu;exact mu
 have hb: ∀b,H b=none→b≠e:=fun b n z=>by
  subst z
  rcases he with r | r
  ·exact hx b n r
  ·rw [n] at r;cases r
 have hm: ∀b u,H b=some u→¬Mut (some u)→b≠x:=fun b u q nm z=>by subst z;rw [q] at mu;exact nm mu
 refine ⟨fun b u q n _ _=>k b u (hb b n) q,fun b u q n _ _=>⟨u.slots,k b u (hb b n) q⟩,fun b u q n _=>by rw [zv (hx b n)];exact n,fun b u q _=>?_,
  fun b xs q=>by rw [zv (hm b _ q fun z=>z)];exact q,fun b u xs q=>by rw [zv (hm b _ q fun z=>z)];exact q,fun b ps q=>⟨#[],by rw [zv (hm b _ q fun z=>z),q];simp⟩⟩
 by_cases hbe:b=e
 ·subst hbe;exact heo
 ·exact ⟨u,k b u hbe q⟩
end
def trk (h:Heap) (H:Hp):List Addr:=(List.range h.objs.size).filter fun a=>(H a).isSome
def hidT (h:Heap) (H:Hp):Heap:=PySem.W.hideAll h (trk h H)
theorem zk4 (h:Heap) (H:Hp):(hidT h H).objs.size=h.objs.size:=PySem.W.hideAll_size _ _
theorem zlu {h:Heap} {H:Hp} {b:Addr} {o:Obj} (e:h.get? b=some o) (n:H b=none):(hidT h H).get? b=some o:=
 PySem.W.hideAll_get _ e fun hm=>by
  have q:(H b).isSome=true:=(List.mem_filter.mp hm).2
  rw [n] at q;simp at q
theorem zp3 {h:Heap} {H:Hp} {b:Addr} {o:Obj} (e:(hidT h H).get? b=some o):h.get? b=some o∧H b=none:=by
 have e':h.get? b=some o:=PySem.W.of_hideAll (trk h H) e
 refine ⟨e',?_⟩
 cases q:H b with
 | none=>rfl
 | some x=>
  have hm:b∈trk h H:=List.mem_filter.mpr ⟨List.mem_range.mpr (Heap.lt_size e'),by simp [q]⟩
  have z:(hidT h H).get? b=none:=PySem.W.hideAll_none (trk h H) hm
  rw [z] at e;cases e
structure Mod (K:PySem.W.Frag) (mg:Str→Option Value) (base:Heap):Prop where
 kin:K.In base
 glob:base.Ns mainGlobals mg
 blt: ∃mb,base.Ns builtinsNs mb∧∀x:Str,x≠"__name__" →mb x=bootBuiltins x
 nolimit:base.NoLimit
structure Cx where
 prog:Program
 w:World
 K:PySem.W.Frag
 mg:Str→Option Value
 base:Heap
 A:Around
 N:List Str
 s₀:Shared
 H₀:Hp
 env:Env
 outer:List Env
 stack:List Env
 ex:List Addr
 fn:Str→Bool
 calm:Bool
 pn:List (Addr×Obj)
 xe:Value→Shared→Prop
def zM (l:List Env):List Addr:=l.filterMap (·.frame)
abbrev Cx.fs (X:Cx):List Addr:=zM X.outer
def Vis (sc:Scope) (x:Str):Prop:=sc.names.lookup x=some .local∨sc.names.lookup x=some .cell∨sc.names.lookup x=some .free
def qh (sc:Scope) (x:Str):Prop:=sc.names.lookup x=some .local∨sc.names.lookup x=some .cell
def Look (env:Env) (h:Heap) (m:Str→Option Value) (x:Str) (u:Value):Prop:=
 (env.kindOf x=some .local∧m x=some u)∨((env.kindOf x=some .cell∨env.kindOf x=some .free)∧∃c,env.cells.lookup x=some c∧h.IsCell c (some u))
structure Cx.Ok (X:Cx):Prop where
 mod:Mod X.K X.mg X.base
 kind:X.env.scope.kind= .function
 glob:X.env.globals=mainGlobals
 blt:X.env.builtins=builtinsNs
 above:X.s₀.heap.objs.size≤X.env.locals
 inj: ∀x y c,X.env.cells.lookup x=some c→X.env.cells.lookup y=some c→x=y
 has: ∀x,(X.env.kindOf x=some .cell∨X.env.kindOf x=some .free)→∃c,X.env.cells.lookup x=some c
 cab: ∀x c,X.fn x=true→X.env.cells.lookup x=some c→X.s₀.heap.objs.size≤c
 hd:X.calm=true→X.A.handled=none
 frames:X.A.frames=some X.stack
 stk:X.stack=X.outer∨(X.stack=X.env::X.outer∧X.env.frame=some X.env.locals)
 exf: ∀b∈X.ex,b≠X.env.locals∧∀x c,X.env.cells.lookup x=some c→c≠b
 bs: ∀b o,X.base.get? b=some o→X.s₀.heap.get? b=some o∧X.H₀ b=none
 bsz:X.base.objs.size≤X.s₀.heap.objs.size
 noex: ∀b o,X.base.get? b=some o→b∉X.ex
 exfs: ∀b∈X.ex,b∉X.fs
 funs:X.s₀.heap.FunFrames X.base X.outer
 frf: ∀b∈X.fs,X.H₀ b=none
structure Inv (X:Cx) (pins:List (Addr×Obj)) (σ:List (Option V)) (H:Hp) (s:Shared):Prop where
 ok:X.Ok
 os:s.os=X.s₀.os
 bare:AllBare s.gens
 base:Un X.fs X.ex X.H₀ H X.s₀.heap s.heap
 loc: ∃m,s.heap.Ns X.env.locals m∧∀(i:Nat) (x:Str) (v:V),X.N[i]? =some x→σ[i]? =some (some v)→Vis X.env.scope x→∃u,RelV v u∧Look X.env s.heap m x u
 cell: ∀x c,X.env.cells.lookup x=some c→∃v,s.heap.IsCell c v
 free:H X.env.locals=none
 freeC: ∀x c,X.env.cells.lookup x=some c→H c=none
 pin: ∀p∈X.pn++pins,s.heap.get? p.1=some p.2∧H p.1=none∧p.1≠X.env.locals∧p.1∉X.fs∧∀v,p.2.data≠ .cell v
 hok:HOk X.prog X.w H s.heap
 len:σ.length=X.N.length
section
variable {X:Cx} {pins:List (Addr×Obj)} {σ:List (Option V)} {H H':Hp} {s:Shared} {h':Heap}
theorem Cx.Ok.nofr (ok:X.Ok) {b:Addr} {o:Obj} (e:X.base.get? b=some o):b∉X.fs:=fun hb=>by
 have:=(ok.funs.mem hb).1
 rw [e] at this;cases this
theorem Inv.bs (I:Inv X pins σ H s): ∀b o,X.base.get? b=some o→s.heap.get? b=some o∧H b=none:=fun b o e=>
 ⟨I.base.keep b o (I.ok.bs b o e).1 (I.ok.bs b o e).2 (I.ok.nofr e) (I.ok.noex b o e),I.base.free b o (I.ok.bs b o e).1 (I.ok.bs b o e).2 (I.ok.noex b o e)⟩
theorem Inv.bk (I:Inv X pins σ H s): ∀b o,X.base.get? b=some o→s.heap.get? b=some o:=fun b o e=>(I.bs b o e).1
theorem Inv.mod (I:Inv X pins σ H s):Mod X.K X.mg X.base:=I.ok.mod
theorem Inv.kIn (I:Inv X pins σ H s):X.K.In s.heap:=I.ok.mod.kin.keeps I.bk
theorem Inv.lt (I:Inv X pins σ H s):X.env.locals < s.heap.objs.size:=let ⟨_,hn,_⟩:=I.loc;hn.lt
theorem Inv.sz (I:Inv X pins σ H s):X.s₀.heap.objs.size≤s.heap.objs.size:=Nat.le_trans I.ok.above (Nat.le_of_lt I.lt)
theorem Inv.nofs (I:Inv X pins σ H s) {a:Addr} (h:s.heap.objs.size≤a):a∉X.fs:=fun hb=>by
 obtain ⟨_,o,ho,_⟩:=I.ok.funs.mem hb
 exact absurd (Nat.lt_of_lt_of_le (Heap.lt_size ho) (Nat.le_trans I.sz h)) (Nat.lt_irrefl _)
theorem Inv.cne (I:Inv X pins σ H s): ∀x c,X.env.cells.lookup x=some c→c≠X.env.locals:=fun x c e z=>by
 obtain ⟨v,o,ho,hd⟩:=I.cell x c e
 obtain ⟨m,⟨o',es,ep,ho',hd',_⟩,_⟩:=I.loc
 rw [z,ho'] at ho;cases ho;rw [hd'] at hd;cases hd
theorem Inv.funs (I:Inv X pins σ H s):s.heap.FunFrames X.base X.outer:=by
 have all: ∀(l:List Env),(∀b∈zM l,b∈X.fs)→X.s₀.heap.FunFrames X.base l→s.heap.FunFrames X.base l:=by
  intro l
  induction l with
  | nil=>intro _ _;trivial
  | cons env r ih=>
   intro hs hl
   obtain ⟨hk,⟨L,o,hf,hn,ho,hd⟩,hr⟩:=hl
   have hL:L∈X.fs:=hs L (by unfold zM;rw [List.filterMap_cons,hf];exact List.mem_cons_self)
   obtain ⟨sl,e⟩:=I.base.slot L o ho (I.ok.frf L hL) hL fun z=>I.ok.exfs L z hL
   exact ⟨hk,⟨L,_,hf,hn,e,hd⟩,ih (fun b hb=>hs b (by unfold zM;rw [List.filterMap_cons,hf];exact List.mem_cons_of_mem _ hb)) hr⟩
 exact all X.outer (fun _ hb=>hb) I.ok.funs
theorem Inv.stack (I:Inv X pins σ H s):s.heap.FunFrames X.base X.stack:=by
 rcases I.ok.stk with e | ⟨e,hf⟩
 ·rw [e];exact I.funs
 ·rw [e]
  obtain ⟨m,hn,_⟩:=I.loc
  refine .cons (by rw [I.ok.kind];decide) hf hn ?_ I.funs
  exact Heap.get?_none_of_le (Nat.le_trans I.ok.bsz I.ok.above)
theorem Inv.stkSub (I:Inv X pins σ H s): ∀b∈zM X.stack,b∈X.env.locals::X.fs:=fun b hb=>by
 rcases I.ok.stk with e | ⟨e,hf⟩
 ·rw [e] at hb;exact List.mem_cons_of_mem _ hb
 ·rw [e] at hb
  unfold zM at hb
  rw [List.filterMap_cons,hf] at hb
  exact hb
theorem Inv.stkFree (I:Inv X pins σ H s): ∀b∈zM X.stack,H b=none:=fun b hb=>by
 rcases List.mem_cons.mp (I.stkSub b hb) with e | hb
 ·rw [e];exact I.free
 ·obtain ⟨_,o,ho,_⟩:=I.ok.funs.mem hb
  exact I.base.free b o ho (I.ok.frf b hb) fun z=>I.ok.exfs b z hb
theorem Inv.step {g':Array GenState} {t':Nat} {d':Drawn} {ch:List Addr} (I:Inv X pins σ H s)
  (hch: ∀b∈ch,(b∈X.ex∨X.s₀.heap.objs.size≤b)∧b≠X.env.locals∧(∀x c,X.env.cells.lookup x=some c→c≠b)∧∀p∈X.pn++pins,p.1≠b)
  (keep: ∀b o,b≠X.env.locals→b∉X.fs→b∉ch→s.heap.get? b=some o→H b=none→h'.get? b=some o)
  (slot: ∀b o,b≠X.env.locals→b∈X.fs→b∉ch→s.heap.get? b=some o→H b=none→∃sl,h'.get? b=some {o with slots:=sl}) (free: ∀b o,b∉ch→s.heap.get? b=some o→H b=none→H' b=none)
  (there: ∀b o,b∉ch→s.heap.get? b=some o→∃o',h'.get? b=some o')
  (tups: ∀b xs,H b=some (.tup xs)→H' b=some (.tup xs)) (frzs: ∀b o u,H b=some (.frz o u)→H' b=some (.frz o u)) (tbls: ∀b ps,H b=some (.tbl ps)→∃more,H' b=some (.tbl (ps++more)))
  (ns: ∀m,s.heap.Ns X.env.locals m→h'.Ns X.env.locals m) (hok:HOk X.prog X.w H' h') (hg:AllBare g'):
  Inv X pins σ H' {s with heap:=h',gens:=g',drawn:=d',toks:=t'}:=by
 have neL: ∀b o,X.s₀.heap.get? b=some o→b≠X.env.locals:=fun b o e=>Nat.ne_of_lt (Nat.lt_of_lt_of_le (Heap.lt_size e) I.ok.above)
 have neC: ∀b o,X.s₀.heap.get? b=some o→b∉X.ex→b∉ch:=fun b o e hx hb=>by
  rcases (hch b hb).1 with z | z
  ·exact hx z
  ·exact absurd (Nat.lt_of_lt_of_le (Heap.lt_size e) z) (Nat.lt_irrefl _)
 have cellK: ∀x c,X.env.cells.lookup x=some c→∀v,s.heap.IsCell c v→h'.IsCell c v:=fun x c e v ⟨o,ho,hd⟩=>by
  have nch:c∉ch:=fun z=>(hch c z).2.2.1 x c e rfl
  by_cases hc:c∈X.fs
  ·obtain ⟨sl,q⟩:=slot c o (I.cne x c e) hc nch ho (I.freeC x c e)
   exact ⟨_,q,hd⟩
  ·exact ⟨o,keep c o (I.cne x c e) hc nch ho (I.freeC x c e),hd⟩
 refine ⟨I.ok,I.os,hg,⟨fun b o e n hb hx=>?_,fun b o e n hb hx=>?_,fun b o e n hx=>?_,fun b o e hx=>?_,fun b xs e=>tups b xs (I.base.tups b xs e),fun b o xs e=>frzs b o xs (I.base.frzs b o xs e),fun b ps e=>?_⟩,?_,fun x c e=>?_,?_,fun x c e=>?_,fun p hp=>?_,hok,I.len⟩
 ·exact keep b o (neL b o e) hb (neC b o e hx) (I.base.keep b o e n hb hx) (I.base.free b o e n hx)
 ·obtain ⟨sl,e1⟩:=I.base.slot b o e n hb hx
  obtain ⟨sl',e2⟩:=slot b _ (neL b o e) hb (neC b o e hx) e1 (I.base.free b o e n hx)
  exact ⟨sl',e2⟩
 ·obtain ⟨o',e1⟩:=I.base.there b o e hx
  exact free b o' (neC b o e hx) e1 (I.base.free b o e n hx)
 ·obtain ⟨o',e1⟩:=I.base.there b o e hx
  exact there b o' (neC b o e hx) e1
 ·obtain ⟨m1,e1⟩:=I.base.tbls b ps e
  obtain ⟨m2,e2⟩:=tbls b _ e1
  exact ⟨m1++m2,by rw [e2,Array.append_assoc]⟩
 ·obtain ⟨m,hn,hl⟩:=I.loc
  refine ⟨m,ns m hn,fun i x v e1 e2 e3=>?_⟩
  obtain ⟨u,r,l⟩:=hl i x v e1 e2 e3
  refine ⟨u,r,?_⟩
  rcases l with l | ⟨k,c,e,z⟩
  ·exact .inl l
  ·exact .inr ⟨k,c,e,cellK x c e _ z⟩
 ·obtain ⟨v,z⟩:=I.cell x c e
  exact ⟨v,cellK x c e v z⟩
 ·obtain ⟨m,⟨o,_,_,ho,_⟩,_⟩:=I.loc
  exact free _ o (fun z=>(hch _ z).2.1 rfl) ho I.free
 ·obtain ⟨v,o,ho,hd⟩:=I.cell x c e
  exact free c o (fun z=>(hch c z).2.2.1 x c e rfl) ho (I.freeC x c e)
 ·obtain ⟨e,n,ne,nf,d⟩:=I.pin p hp
  have nch:p.1∉ch:=fun z=>(hch p.1 z).2.2.2 p hp rfl
  exact ⟨keep p.1 p.2 ne nf nch e n,free p.1 p.2 nch e n,ne,nf,d⟩
theorem Inv.un {t':Nat} (I:Inv X pins σ H s) (u:Un X.fs [] H H' s.heap h') (hok:HOk X.prog X.w H' h'):Inv X pins σ H' {s with heap:=h',toks:=t'}:=by
 obtain ⟨m,⟨o,es,ep,ho,r⟩,_⟩:=id I.loc
 obtain ⟨sl,hL⟩:=u.any ho I.free (by simp)
 exact I.step (g':=s.gens) (d':=s.drawn) (ch:=[]) (fun _ z=>nomatch z) (fun b o _ hb _ e n=>u.keep b o e n hb (by simp)) (fun b o _ hb _ e n=>u.slot b o e n hb (by simp)) (fun b o _ e n=>u.free b o e n (by simp)) (fun b o _ e=>u.there b o e (by simp)) u.tups u.frzs u.tbls (fun m' hm=>by
  obtain ⟨o',es',ep',ho',r'⟩:=hm
  rw [ho] at ho';cases ho'
  exact ⟨_,es',ep',hL,r'⟩) hok I.bare
theorem Inv.call {g':Array GenState} {t':Nat} {d':Drawn} {ch:List Addr} (I:Inv X pins σ H s) (u:Un (zM X.stack) ch H H' s.heap h') (hok:HOk X.prog X.w H' h') (hg:AllBare g')
  (hch: ∀b∈ch,(b∈X.ex∨X.s₀.heap.objs.size≤b)∧b≠X.env.locals∧(∀x c,X.env.cells.lookup x=some c→c≠b)∧∀p∈X.pn++pins,p.1≠b):
  Inv X pins σ H' {s with heap:=h',gens:=g',drawn:=d',toks:=t'}:=by
 obtain ⟨m,⟨o,es,ep,ho,r⟩,_⟩:=id I.loc
 obtain ⟨sl,hL⟩:=u.any ho I.free fun z=>(hch _ z).2.1 rfl
 exact I.step (ch:=ch) hch (fun b o hL hb hc e n=>u.keep b o e n (fun z=>(List.mem_cons.mp (I.stkSub b z)).elim hL hb) hc) (fun b o _ _ hc e n=>u.any e n hc) (fun b o hc e n=>u.free b o e n hc) (fun b o hc e=>u.there b o e hc) u.tups u.frzs u.tbls (fun m' hm=>by
  obtain ⟨o',es',ep',ho',r'⟩:=hm
  rw [ho] at ho';cases ho'
  exact ⟨_,es',ep',hL,r'⟩) hok hg
theorem Inv.turned {t':Nat} {it:Addr} (I:Inv X pins σ H s) (k: ∀b o,b≠it→s.heap.get? b=some o→h'.get? b=some o) (hn:H it=none) (hL:it≠X.env.locals)
  (h1:it∈X.ex∨X.s₀.heap.objs.size≤it) (h2: ∀x c,X.env.cells.lookup x=some c→c≠it) (h3: ∀p∈X.pn++pins,p.1≠it):Inv X pins σ H {s with heap:=h',toks:=t'}:=by
 have nit: ∀b u,H b=some u→b≠it:=fun b u e z=>by rw [z,hn] at e;cases e
 refine I.step (g':=s.gens) (d':=s.drawn) (ch:=[it]) (fun b hb=>?_) (fun b o _ _ hc e _=>k b o (fun z=>hc (by simp [z])) e) (fun b o _ _ hc e _=>⟨o.slots,k b o (fun z=>hc (by simp [z])) e⟩) (fun _ _ _ _ n=>n)
  (fun b o hc e=>⟨o,k b o (fun z=>hc (by simp [z])) e⟩) (fun _ _ e=>e) (fun _ _ _ e=>e) (fun b ps e=>⟨#[],by rw [e];simp⟩) (fun m hm=>?_) (fun b u e=>?_) I.bare
 ·have e:b=it:=by simpa using hb
  subst e
  exact ⟨h1,hL,h2,h3⟩
 ·obtain ⟨o,es,ep,ho,r⟩:=hm
  exact ⟨o,es,ep,k _ o (Ne.symm hL) ho,r⟩
 ·refine (I.hok b u e).stay (fun c v hc q=>k c v ?_ q) (fun _ q=>q) fun _ _ q=>q
  rcases hc with z | z
  ·rw [z];exact nit b u e
  ·exact nit c _ z
theorem Inv.tok (I:Inv X pins σ H s) (t:Nat):Inv X pins σ H {s with toks:=t}:=I.un (h':=s.heap) (t':=t) Un.refl I.hok
theorem Inv.kept {t':Nat} (I:Inv X pins σ H s) (k: ∀b u,s.heap.get? b=some u→h'.get? b=some u):Inv X pins σ H {s with heap:=h',toks:=t'}:=I.un (Un.kept k) (I.hok.kept k)
theorem Inv.laid {a:Addr} {o:HO} {t':Nat} (I:Inv X pins σ H s) (k: ∀b u,s.heap.get? b=some u→h'.get? b=some u) (hp:s.heap.objs.size≤a) (new:ObjOk X.prog X.w (zi H a o) h' a o):
 Inv X pins σ (zi H a o) {s with heap:=h',toks:=t'}:=I.un (Un.laid k hp (I.hok.fresh hp)) (I.hok.laid k hp new)
theorem Inv.write {x e:Addr} {o:HO} {t':Nat} (I:Inv X pins σ H s) (mu:Mut (H x)) (he:e=x∨H e=some (.own x)) (k: ∀b u,b≠e→s.heap.get? b=some u→h'.get? b=some u) (heo: ∃u,h'.get? e=some u)
 (new:ObjOk X.prog X.w (zi H x o) h' x o):Inv X pins σ (zi H x o) {s with heap:=h',toks:=t'}:=I.un (Un.write mu he k heo) (I.hok.write mu he k heo new)
theorem Inv.pins_of {pins':List (Addr×Obj)} (I:Inv X pins σ H s) (h: ∀p∈pins',s.heap.get? p.1=some p.2∧H p.1=none∧p.1≠X.env.locals∧p.1∉X.fs∧∀v,p.2.data≠ .cell v):Inv X pins' σ H s:=
 ⟨I.ok,I.os,I.bare,I.base,I.loc,I.cell,I.free,I.freeC,fun p hp=>(List.mem_append.mp hp).elim (fun z=>I.pin p (List.mem_append_left _ z)) (h p),I.hok,I.len⟩
theorem zf5 {N:List Str} (hN:N.Nodup) {i j:Nat} {x:Str} (a:N[i]? =some x) (b:N[j]? =some x):i=j:=by
 obtain ⟨h1,e1⟩:=List.getElem?_eq_some_iff.mp a
 obtain ⟨h2,e2⟩:=List.getElem?_eq_some_iff.mp b
 exact (List.getElem_inj hN).mp (e1.trans e2.symm)
theorem zj5 {M:Model} {A:Around} {E:Value→Shared→Prop} {i:Nat} {x:Str} {v:V} {u:Value} {Q:Unit→Shared→Prop} (I:Inv X pins σ H s) (hN:X.N.Nodup) (hi:X.N[i]? =some x) (hx:qh X.env.scope x) (r:RelV v u)
  (h: ∀s',Inv X pins (σ.set i (some v)) H s'→(∃a,Heap.SameBut a s.heap s'.heap∧(a=X.env.locals∨X.env.cells.lookup x=some a))→Q () s') (hf:X.fn x=true∨X.env.scope.names.lookup x=some .local:=by first | exact .inl rfl | exact .inr rfl | assumption):wpAny M A (storeName X.env x u) Q E s:=by
 obtain ⟨m,hn,hl⟩:=id I.loc
 have hcls:(X.env.scope.kind== .class || (X.env.scope.kind== .module && X.env.locals !=X.env.globals))=false:=by rw [I.ok.kind];rfl
 have hiσ:i < σ.length:=by rw [I.len];exact (List.getElem?_eq_some_iff.mp hi).1
 have cne:=I.cne
 have tracked: ∀{a:Addr} {h':Heap},(∃o,s.heap.get? a=some o∧H a=none)→Heap.SameBut a s.heap h'→HOk X.prog X.w H h':=fun {a h'} ha hs b ob e=>by
  obtain ⟨_,_,hfree⟩:=ha
  refine (I.hok b ob e).stay (fun c w' hc q=>(hs.2 c ?_).trans q) (fun _ q=>q) fun _ _ q=>q
  rintro rfl
  rcases hc with rfl | hc
  ·rw [hfree] at e;cases e
  ·rw [hfree] at hc;cases hc
 rcases hx with hk | hk
 ·refine wpAny_storeName_local hk hn (fun h' hn' hs=>?_) hcls
  obtain ⟨oL,_,_,hoL,_⟩:=id hn
  refine h _ ⟨I.ok,I.os,I.bare,⟨fun b o e n hb hx=>?_,fun b o e n hb hx=>?_,I.base.free,fun b o e hx=>?_,I.base.tups,I.base.frzs,I.base.tbls⟩,⟨_,hn',fun j y v' e1 e2 e3=>?_⟩,fun y c e=>?_,I.free,I.freeC,fun p hp=>?_,tracked ⟨oL,hoL,I.free⟩ hs,by simpa using I.len⟩ ⟨_,hs,.inl rfl⟩
  ·exact (hs.2 b (Nat.ne_of_lt (Nat.lt_of_lt_of_le (Heap.lt_size e) I.ok.above))).trans (I.base.keep b o e n hb hx)
  ·obtain ⟨sl,e1⟩:=I.base.slot b o e n hb hx
   exact ⟨sl,(hs.2 b (Nat.ne_of_lt (Nat.lt_of_lt_of_le (Heap.lt_size e) I.ok.above))).trans e1⟩
  ·obtain ⟨o',e1⟩:=I.base.there b o e hx
   exact ⟨o',(hs.2 b (Nat.ne_of_lt (Nat.lt_of_lt_of_le (Heap.lt_size e) I.ok.above))).trans e1⟩
  ·by_cases hj:j=i
   ·subst hj
    rw [hi] at e1;cases e1
    rw [List.getElem?_set_self hiσ] at e2
    cases e2
    exact ⟨u,r,.inl ⟨hk,by simp⟩⟩
   ·rw [List.getElem?_set_ne (Ne.symm hj)] at e2
    obtain ⟨u',r',q⟩:=hl j y v' e1 e2 e3
    refine ⟨u',r',?_⟩
    rcases q with ⟨k,e⟩ | ⟨k,c,e,z⟩
    ·refine .inl ⟨k,?_⟩
     have:y≠x:=fun e=>hj (zf5 hN e1 (e ▸ hi))
     simp [this,e]
    ·exact .inr ⟨k,c,e,z.sameBut hs (cne y c e)⟩
  ·obtain ⟨w',z⟩:=I.cell y c e
   exact ⟨w',z.sameBut hs (cne y c e)⟩
  ·obtain ⟨e,n,ne,nf,d⟩:=I.pin p hp
   exact ⟨(hs.2 p.1 ne).trans e,n,ne,nf,d⟩
 ·have hfn:X.fn x=true:=by
   rcases hf with z | z
   ·exact z
   ·rw [z] at hk;cases hk
  obtain ⟨c,hc⟩:=I.ok.has x (.inl hk)
  obtain ⟨w',z⟩:=I.cell x c hc
  refine wpAny_storeName_cell I.ok.kind hk hc z (fun h' hc' hs=>?_)
  obtain ⟨oc,hoc,hocd⟩:=id z
  refine h {s with heap:=h'} ⟨I.ok,I.os,I.bare,⟨fun b o e n hb hx=>?_,fun b o e n hb hx=>?_,I.base.free,fun b o e hx=>?_,I.base.tups,I.base.frzs,I.base.tbls⟩,⟨m,hn.sameBut hs (Ne.symm (cne x c hc)),fun j y v' e1 e2 e3=>?_⟩,fun y c' e=>?_,I.free,I.freeC,fun p hp=>?_,tracked ⟨oc,hoc,I.freeC x c hc⟩ hs,by simpa using I.len⟩ ⟨c,hs,.inr hc⟩
  ·exact (hs.2 b (Nat.ne_of_lt (Nat.lt_of_lt_of_le (Heap.lt_size e) (I.ok.cab x c hfn hc)))).trans (I.base.keep b o e n hb hx)
  ·obtain ⟨sl,e1⟩:=I.base.slot b o e n hb hx
   exact ⟨sl,(hs.2 b (Nat.ne_of_lt (Nat.lt_of_lt_of_le (Heap.lt_size e) (I.ok.cab x c hfn hc)))).trans e1⟩
  ·obtain ⟨o',e1⟩:=I.base.there b o e hx
   exact ⟨o',(hs.2 b (Nat.ne_of_lt (Nat.lt_of_lt_of_le (Heap.lt_size e) (I.ok.cab x c hfn hc)))).trans e1⟩
  ·by_cases hj:j=i
   ·subst hj
    rw [hi] at e1;cases e1
    rw [List.getElem?_set_self hiσ] at e2
    cases e2
    exact ⟨u,r,.inr ⟨.inl hk,c,hc,hc'⟩⟩
   ·rw [List.getElem?_set_ne (Ne.symm hj)] at e2
    obtain ⟨u',r',q⟩:=hl j y v' e1 e2 e3
    refine ⟨u',r',?_⟩
    rcases q with q | ⟨k,c',e,z'⟩
    ·exact .inl q
    ·refine .inr ⟨k,c',e,z'.sameBut hs ?_⟩
     rintro rfl
     exact hj (zf5 hN e1 (I.ok.inj _ _ _ e hc ▸ hi))
  ·by_cases hcc:c'=c
   ·subst hcc;exact ⟨_,hc'⟩
   ·obtain ⟨w2,z2⟩:=I.cell y c' e
    exact ⟨w2,z2.sameBut hs hcc⟩
  ·obtain ⟨e,n,ne,nf,d⟩:=I.pin p hp
   refine ⟨(hs.2 p.1 ?_).trans e,n,ne,nf,d⟩
   intro q
   rw [q,hoc] at e
   have q':oc=p.2:=Option.some.inj e
   exact d w' (by rw [←q'];exact hocd)
theorem zej {M:Model} {A:Around} {E:Value→Shared→Prop} {i:Nat} {x:Str} {v:V} {u:Value} {Q:Unit→Shared→Prop} (I:Inv X pins σ H s) (hN:X.N.Nodup) (hi:X.N[i]? =some x) (hx:qh X.env.scope x) (r:RelV v u)
  (h: ∀s',Inv X pins (σ.set i (some v)) H s'→Q () s') (hf:X.fn x=true∨X.env.scope.names.lookup x=some .local:=by first | exact .inl rfl | exact .inr rfl | assumption):wpAny M A (storeName X.env x u) Q E s:=
 zj5 I hN hi hx r (fun s' I' _=>h s' I') hf
theorem Inv.call' {s':Shared} {ch:List Addr} (I:Inv X pins σ H s) (ho:s'.os=s.os) (u:Un (zM X.stack) ch H H' s.heap s'.heap) (hok:HOk X.prog X.w H' s'.heap) (hg:AllBare s'.gens)
  (hch: ∀b∈ch,(b∈X.ex∨X.s₀.heap.objs.size≤b)∧b≠X.env.locals∧(∀x c,X.env.cells.lookup x=some c→c≠b)∧∀p∈X.pn++pins,p.1≠b):Inv X pins σ H' s':=by
 obtain ⟨h',g',d',t',o'⟩:=s'
 have e:o'=s.os:=ho
 subst e
 exact I.call (g':=g') (t':=t') (d':=d') u hok hg hch
end
abbrev XK:=Value→Option Addr→Hp→Prop
abbrev St:=List (Option V)
abbrev VK:=V→Hp→Prop
abbrev TE:=St→Hp→VK→Prop
abbrev TT:=St→Hp→(Bool→Hp→Prop)→Prop
abbrev TA:=St→Hp→(List V→Hp→Prop)→Prop
structure Ends where
 nx:St→Hp→Prop
 rt:VK
 bk:St→Hp→Prop:=fun _ _=>False
 ct:St→Hp→Prop:=fun _ _=>False
abbrev TS:=Ends→St→Hp→Prop
def EP (X:Cx) (pins:List (Addr×Obj)) (σ:St) (Q:VK) (u:Value) (s':Shared):Prop:=∃v H',Inv X pins σ H' s'∧RelV v u∧Q v H'
def TP (X:Cx) (pins:List (Addr×Obj)) (σ:St) (Q:Bool→Hp→Prop) (b:Bool) (s':Shared):Prop:=∃H',Inv X pins σ H' s'∧Q b H'
def AP (X:Cx) (pins:List (Addr×Obj)) (σ:St) (Q:List V→Hp→Prop) (us:List Value) (s':Shared):Prop:=∃vs H',Inv X pins σ H' s'∧Vals vs us∧Q vs H'
def SP (X:Cx) (pins:List (Addr×Obj)) (D:Ends) (f:Flow) (s':Shared):Prop:=
 match f with
 | .next=> ∃σ' H',Inv X pins σ' H' s'∧D.nx σ' H'
 | .brk=> ∃σ' H',Inv X pins σ' H' s'∧D.bk σ' H'
 | .cont=> ∃σ' H',Inv X pins σ' H' s'∧D.ct σ' H'
 | .ret u=> ∃v σ' H',Inv X pins σ' H' s'∧RelV v u∧D.rt v H'
def PE (X:Cx) (e:Expr) (t:TE):Prop:=
 ∀(pins:List (Addr×Obj)) (s:Shared) (σ:St) (H:Hp) (Q:VK),Inv X pins σ H s→t σ H Q→wpAny (model X.prog X.w) X.A (eval e X.env) (EP X pins σ Q) X.xe s
def PT (X:Cx) (e:Expr) (t:TT):Prop:=
 ∀(pins:List (Addr×Obj)) (s:Shared) (σ:St) (H:Hp) (Q:Bool→Hp→Prop),Inv X pins σ H s→t σ H Q→wpAny (model X.prog X.w) X.A (isTrue e X.env (eval e X.env)) (TP X pins σ Q) X.xe s
def PW (X:Cx) (e:Expr) (t:TT):Prop:=
 ∀(whole:Sem Value) (pins:List (Addr×Obj)) (s:Shared) (σ:St) (H:Hp) (Q:Bool→Hp→Prop),Inv X pins σ H s→t σ H Q→wpAny (model X.prog X.w) X.A (isTrue e X.env whole) (TP X pins σ Q) X.xe s
theorem PW.pt {X:Cx} {e:Expr} {t:TT} (h:PW X e t):PT X e t:=h _
def PA (X:Cx) (es:List Expr) (t:TA):Prop:=
 ∀(pos:Pos) (pins:List (Addr×Obj)) (s:Shared) (σ:St) (H:Hp) (Q:List V→Hp→Prop),Inv X pins σ H s→t σ H Q→wpAny (model X.prog X.w) X.A (spliced (backTo pos (starEach es X.env))) (AP X pins σ Q) X.xe s
def PS (X:Cx) (st:Stmt) (t:TS):Prop:=
 ∀(pins:List (Addr×Obj)) (s:Shared) (σ:St) (H:Hp) (D:Ends),Inv X pins σ H s→t D σ H→wpAny (model X.prog X.w) X.A (exec st X.env) (SP X pins D) X.xe s
def zW (X:Cx) (st:List Stmt) (t:TS):Prop:=
 ∀(pins:List (Addr×Obj)) (s:Shared) (σ:St) (H:Hp) (D:Ends),Inv X pins σ H s→t D σ H→wpAny (model X.prog X.w) X.A (execs st X.env) (SP X pins D) X.xe s
theorem zk {α:Type} {t:Sem α} {Q Q':α→Shared→Prop} {M:Model} {A:Around} {E:Value→Shared→Prop} {s:Shared} (h:wpAny M A t Q E s) (hQ: ∀a s,Q a s→Q' a s):wpAny M A t Q' E s:=wpAny_mono h hQ fun _ _ x=>x
section
variable {X:Cx}
def tVar (i:Nat):TE:=fun σ H Q=> ∃v,σ[i]? =some (some v)∧Q v H
def tC (v:V):TE:=fun _ H Q=>Q v H
theorem zgp {i:Nat} {x:Str} {pos:Pos} (hN:X.N[i]? =some x) (hv:Vis X.env.scope x) (hd:(x==("__debug__" :Str))=false:=by decide) (hcd:(x==("__classdict__" :Str))=false:=by decide):PE X (.Name x pos) (tVar i):=by
 intro pins s σ H Q I h
 obtain ⟨v,e,h⟩:=h
 obtain ⟨m,hn,hl⟩:=I.loc
 obtain ⟨u,r,l⟩:=hl i x v hN e hv
 have fin:EP X pins σ Q u s:=⟨v,H,I,r,h⟩
 rcases l with ⟨hk,hm⟩ | ⟨hk,c,hc,hcell⟩
 ·exact wpAny_Name (wpAny_loadName_local I.ok.kind hk hn hm fin) hd
 ·rcases hk with hk | hk
  ·exact wpAny_Name (wpAny_loadName_cell I.ok.kind hk hc hcell fin) hd
  ·exact wpAny_Name (wpAny_loadName_free I.ok.kind hk hc hcell fin hcd) hd
theorem zq7 {i j pos}:PE X (.Constant (.int i) j pos) (tC (.int i)):=fun _ _ _ H _ I h=>wpAny_Constant_int ⟨.int i,H,I.tok _,⟨_,rfl⟩,h⟩
theorem zq6 {b j pos}:PE X (.Constant (.bool b) j pos) (tC (.bl b)):=fun _ _ _ H _ I h=>Constant_bool ⟨.bl b,H,I,rfl,h⟩
theorem zqu {j pos}:PE X (.Constant .none j pos) (tC .non):=fun _ _ _ H _ I h=>Constant_none ⟨.non,H,I,rfl,h⟩
theorem zjm {x j pos}:PE X (.Constant (.str x) j pos) (tC (.str x)):=fun _ _ _ H _ I h=>Calls.Constant_str ⟨.str x,H,I.tok _,⟨_,rfl⟩,h⟩
def Gl (X:Cx) (x:Str):Prop:=X.env.kindOf x=some .globalImplicit
theorem zc1 {E:Value→Shared→Prop} {pins:List (Addr×Obj)} {s:Shared} {σ:St} {H:Hp} {x:Str} {u:Value} {pos:Pos} {Q:Value→Shared→Prop} (I:Inv X pins σ H s) (hg:Gl X x) (hm:X.mg x=some u) (h:Q u s)
  (hd:(x==("__debug__" :Str))=false:=by decide):wpAny (model X.prog X.w) X.A (eval (.Name x pos) X.env) Q E s:=
 Calls.Name_function_global I.ok.kind hg (Calls.loadGlobal_global (by rw [I.ok.glob];exact I.mod.glob.keeps I.bk) hm h) hd
theorem zib {E:Value→Shared→Prop} {pins:List (Addr×Obj)} {s:Shared} {σ:St} {H:Hp} {x:Str} {u:Value} {pos:Pos} {Q:Value→Shared→Prop} (I:Inv X pins σ H s) (hg:Gl X x) (hm:X.mg x=none) (hv:bootBuiltins x=some u) (h:Q u s)
  (hn:x≠"__name__" :=by decide) (hd:(x==("__debug__" :Str))=false:=by decide):wpAny (model X.prog X.w) X.A (eval (.Name x pos) X.env) Q E s:=by
 obtain ⟨mb,h1,h2⟩:=I.mod.blt
 exact Calls.Name_function_global I.ok.kind hg (Calls.loadGlobal_builtin (by rw [I.ok.glob];exact I.mod.glob.keeps I.bk) hm (by rw [I.ok.blt];exact h1.keeps I.bk) ((h2 x hn).trans hv) h) hd
theorem qf {x:Str} {v:V} {u:Value} {pos:Pos} (hg:Gl X x) (hm:X.mg x=some u) (r:RelV v u) (hd:(x==("__debug__" :Str))=false:=by decide):PE X (.Name x pos) (tC v):=
 fun _ _ _ H _ I h=>zc1 I hg hm ⟨v,H,I,r,h⟩ hd
theorem zdm {x:Str} {v:V} {u:Value} {pos:Pos} (hg:Gl X x) (hm:X.mg x=none) (hv:bootBuiltins x=some u) (r:RelV v u) (hn:x≠"__name__" :=by decide) (hd:(x==("__debug__" :Str))=false:=by decide):PE X (.Name x pos) (tC v):=
 fun _ _ _ H _ I h=>zib I hg hm hv ⟨v,H,I,r,h⟩ hn hd
variable {a b:Expr} {ta tb:TE} {pos:Pos}
def tB (t:TE):TT:=fun σ H Q=>t σ H fun x H1=> ∃c,x= .bl c∧Q c H1
theorem zrq {e:Expr} {t:TE} (h:PE X e t) (he: ∀whole,isTrue e X.env whole=(do let v ←whole;standAt e.pos;holding [v] (truthy v)):=by intro _;rfl):PT X e (tB t):=by
 intro pins s σ H Q I hw
 refine isTrue_plain (zk (h pins s σ H _ I hw) fun v s1 ⟨x,H1,I1,r1,q1⟩=>?_) (he _)
 obtain ⟨d,rfl,q⟩:=q1
 cases r1
 exact wpAny_truthy_bool ⟨H1,I1,q⟩
variable {tA tB':TT} {rest:List Expr}
def tAnd (t u:TT):TT:=fun σ H Q=>t σ H fun c H1=>if c=true then u σ H1 Q else Q false H1
def tOr (t u:TT):TT:=fun σ H Q=>t σ H fun c H1=>if c=true then Q true H1 else u σ H1 Q
def tNot (t:TT):TT:=fun σ H Q=>t σ H fun c H1=>Q (!c) H1
theorem zok (ha:PT X a tA):PW X (.BoolOp .And [a] pos) tA:=by
 intro wh pins s σ H Q I h
 refine isTrue_and (zk (ha pins s σ H Q I h) fun c s1 e=>?_)
 cases c with
 | true=>exact isTrue_and_nil e
 | false=>exact e
theorem zsp (ha:PT X a tA):PW X (.BoolOp .Or [a] pos) tA:=by
 intro wh pins s σ H Q I h
 refine isTrue_or (zk (ha pins s σ H Q I h) fun c s1 e=>?_)
 cases c with
 | false=>exact isTrue_or_nil e
 | true=>exact e
theorem zq8 (ha:PT X a tA) (hb:PW X (.BoolOp .And (b::rest) pos) tB'):PW X (.BoolOp .And (a::b::rest) pos) (tAnd tA tB'):=by
 intro wh pins s σ H Q I h
 refine isTrue_and (zk (ha pins s σ H _ I h) fun c s1 ⟨H1,I1,q1⟩=>?_)
 cases c with
 | true=>exact hb wh pins s1 σ H1 Q I1 q1
 | false=>exact ⟨H1,I1,q1⟩
theorem zs0 (ha:PT X a tA) (hb:PW X (.BoolOp .Or (b::rest) pos) tB'):PW X (.BoolOp .Or (a::b::rest) pos) (tOr tA tB'):=by
 intro wh pins s σ H Q I h
 refine isTrue_or (zk (ha pins s σ H _ I h) fun c s1 ⟨H1,I1,q1⟩=>?_)
 cases c with
 | true=>exact ⟨H1,I1,q1⟩
 | false=>exact hb wh pins s1 σ H1 Q I1 q1
theorem zqa (ha:PT X a tA):PT X (.UnaryOp .Not a pos) (tNot tA):=by
 intro pins s σ H Q I h
 exact isTrue_not (ha pins s σ H (fun c H1=>Q (!c) H1) I h)
def zt0 (ta tb:TE):TE:=fun σ H Q=>ta σ H fun x H1=> ∃c,x= .bl c∧if c=true then tb σ H1 Q else Q (.bl false) H1
def zs6 (ta:TE):TE:=fun σ H Q=>ta σ H fun x H1=> ∃c,x= .bl c∧Q (.bl (!c)) H1
theorem zqr {op} {t:TE} (h:PE X a t):PE X (.BoolOp op [a] pos) t:=fun pins s σ H Q I hw=>BoolOp_one (h pins s σ H Q I hw)
theorem zq0 (ha:PE X a ta) (hb:PE X (.BoolOp .And (b::rest) pos) tb):PE X (.BoolOp .And (a::b::rest) pos) (zt0 ta tb):=by
 intro pins s σ H Q I h
 refine BoolOp_and (zk (ha pins s σ H _ I h) fun v s1 ⟨x,H1,I1,r1,q1⟩=>?_)
 obtain ⟨c,rfl,q1⟩:=q1
 cases r1
 refine wpAny_truthy_bool ?_
 cases c with
 | true=>exact hb pins s1 σ H1 Q I1 q1
 | false=>exact ⟨.bl false,H1,I1,rfl,q1⟩
theorem zso (ha:PE X a ta):PE X (.UnaryOp .Not a pos) (zs6 ta):=by
 intro pins s σ H Q I h
 refine UnaryOp_ (zk (ha pins s σ H _ I h) fun v s1 ⟨x,H1,I1,r1,q1⟩=>?_)
 obtain ⟨c,rfl,q1⟩:=q1
 cases r1
 exact not_of (wpAny_truthy_bool ⟨.bl (!c),H1,I1,rfl,q1⟩)
end
def SqL (K:PySem.W.Frag) (H:Hp) (a:Addr) (xs:List V):Prop:=
 Rd H a (.lst xs)∨
  ∃(o:Obj) (its:Array Value) (n:Nat),K.lookup a=some o∧o.cls= .type "list" ∧o.dict=none∧o.data= .seq its n∧its.size≤sizeLine∧Vals xs its.toList
def SqT (K:PySem.W.Frag) (H:Hp) (a:Addr) (xs:List V):Prop:=
 Rd H a (.tup xs)∨
  ∃(o:Obj) (its:Array Value) (n:Nat),K.lookup a=some o∧o.cls= .type "tuple" ∧o.data= .seq its n∧its.size≤sizeLine∧Vals xs its.toList
def absV:Value→Option V
 | .none=>some .non
 | .bool b=>some (.bl b)
 | .int i _=>some (.int i)
 | .str x _=>some (.str x)
 | .bytes b _=>some (.byt b)
 | .float b _=>some (.flt b)
 | .ref a=>some (.ref a)
 | .type n=>some (.ty n)
 | _=>none
theorem RelV.abs {x:V} {u:Value} (r:RelV x u):absV u=some x:=by
 cases x with
 | non=>cases r;rfl
 | bl _=>cases r;rfl
 | int _=>obtain ⟨t,rfl⟩:=r;rfl
 | str _=>obtain ⟨t,rfl⟩:=r;rfl
 | byt _=>obtain ⟨t,rfl⟩:=r;rfl
 | flt _=>obtain ⟨t,rfl⟩:=r;rfl
 | ref _=>cases r;rfl
 | ty _=>cases r;rfl
theorem RelV.inj {x y:V} {u:Value} (r:RelV x u) (q:RelV y u):x=y:=Option.some.inj (r.abs.symm.trans q.abs)
theorem Vals.inj: ∀{xs ys:List V} {us:List Value},Vals xs us→Vals ys us→xs=ys
 | _,_,_,.nil,.nil=>rfl
 | _,_,_,.cons r t,.cons r' t'=>by rw [r.inj r',Vals.inj t t']
section
variable {X:Cx} {pins:List (Addr×Obj)} {σ:St} {H:Hp} {s:Shared} {a:Addr} {xs ys:List V}
theorem SqL.of {K:PySem.W.Frag} (h:H a=some (.lst xs)):SqL K H a xs:= .inl (.inl h)
theorem SqT.of {K:PySem.W.Frag} (h:H a=some (.tup xs)):SqT K H a xs:= .inl (.inl h)
theorem Inv.list (I:Inv X pins σ H s) (h:SqL X.K H a xs): ∃its:List Value,Vals xs its∧PlainL s.heap a its.toArray∧xs.length≤sizeLine:=by
 rcases h with h | ⟨o,its,n,hk,hc,hd,hs,hz,r⟩
 ·obtain ⟨z,its,n,r,e⟩:=h.ok I.hok
  exact ⟨its,r,⟨_,n,e,rfl,rfl,rfl⟩,z⟩
 ·refine ⟨its.toList,r,⟨o,n,I.kIn a o hk,hc,hd,by simpa using hs⟩,?_⟩
  have e:=r.length
  simp only [Array.length_toList] at e
  omega
theorem Inv.tuple (I:Inv X pins σ H s) (h:SqT X.K H a xs): ∃its:List Value,Vals xs its∧IsTup s.heap a its.toArray∧xs.length≤sizeLine:=by
 rcases h with h | ⟨o,its,n,hk,hc,hs,hz,r⟩
 ·obtain ⟨z,its,r,p⟩:=h.ok I.hok
  exact ⟨its,r,p,z⟩
 ·refine ⟨its.toList,r,⟨o,I.kIn a o hk,hc,n,by simpa using hs⟩,?_⟩
  have e:=r.length
  simp only [Array.length_toList] at e
  omega
theorem Inv.list_inj (I:Inv X pins σ H s) (h:SqL X.K H a xs) (h':SqL X.K H a ys):xs=ys:=by
 obtain ⟨its,r,⟨o,n,e,_,_,d⟩,_⟩:=I.list h
 obtain ⟨its',r',⟨o',n',e',_,_,d'⟩,_⟩:=I.list h'
 rw [e] at e';cases e'
 rw [d] at d'
 injection d' with d1 _
 have:its=its':=by simpa using congrArg Array.toList d1
 subst this
 exact r.inj r'
end
abbrev Cx.wish (X:Cx) (E:Value→Shared→Prop):Cx:={X with xe:=E}
theorem Cx.Ok.wish {X:Cx} (ok:X.Ok) (E:Value→Shared→Prop):(X.wish E).Ok:=
 ⟨ok.mod,ok.kind,ok.glob,ok.blt,ok.above,ok.inj,ok.has,ok.cab,ok.hd,ok.frames,ok.stk,ok.exf,ok.bs,ok.bsz,ok.noex,ok.exfs,ok.funs,ok.frf⟩
theorem Cx.Ok.unwish {X:Cx} {E:Value→Shared→Prop} (ok:(X.wish E).Ok):X.Ok:=
 ⟨ok.mod,ok.kind,ok.glob,ok.blt,ok.above,ok.inj,ok.has,ok.cab,ok.hd,ok.frames,ok.stk,ok.exf,ok.bs,ok.bsz,ok.noex,ok.exfs,ok.funs,ok.frf⟩
section
variable {X:Cx} {pins:List (Addr×Obj)} {σ:St} {H:Hp} {s:Shared} {E:Value→Shared→Prop}
theorem Inv.wish (I:Inv X pins σ H s) (E:Value→Shared→Prop):Inv (X.wish E) pins σ H s:=⟨I.ok.wish E,I.os,I.bare,I.base,I.loc,I.cell,I.free,I.freeC,I.pin,I.hok,I.len⟩
theorem Inv.unwish (I:Inv (X.wish E) pins σ H s):Inv X pins σ H s:=⟨I.ok.unwish,I.os,I.bare,I.base,I.loc,I.cell,I.free,I.freeC,I.pin,I.hok,I.len⟩
end
section
variable {X:Cx} {st:Stmt} {rest:List Stmt} {t u:TS} {e:Expr} {te:TE} {pos:Pos}
def zrc:TS:=fun D σ H=>D.nx σ H
def tSeq (t u:TS):TS:=fun D σ H=>t {D with nx:=u D} σ H
theorem zjw:zW X [] zrc:=fun _ _ σ H _ I h=>wpAny_execs_nil ⟨σ,H,I,h⟩
theorem zij (h1:PS X st t) (h2:zW X rest u):zW X (st::rest) (tSeq t u):=by
 intro pins s σ H D I h
 refine wpAny_execs_cons (zk (h1 pins s σ H {D with nx:=u D} I h) fun f s1 q=>?_)
 cases f with
 | next=>
  obtain ⟨σ',H',I',q⟩:=q
  exact h2 pins s1 σ' H' D I' q
 | ret v=>exact q
 | brk=>exact q
 | cont=>exact q
theorem zfv (h1:PS X st t):zW X [st] t:=by
 intro pins s σ H D I h
 refine wpAny_execs_cons (zk (h1 pins s σ H D I h) fun f s1 q=>?_)
 cases f with
 | next=>exact wpAny_execs_nil q
 | ret v=>exact q
 | brk=>exact q
 | cont=>exact q
theorem Inv.quiet {pins:List (Addr×Obj)} {σ:St} {H:Hp} {s:Shared} (I:Inv X pins σ H s):interactive X.env=false:=by simp [interactive,I.ok.kind]
def zrd (te:TE):TS:=fun D σ H=>te σ H fun _ H1=>D.nx σ H1
theorem zk0 (he:PE X e te) (hs:swapsWith e none pos.line X.env=pure false:=by rfl):PS X (.Expr e pos) (zrd te):=by
 intro pins s σ H D I h
 exact wpAny_Expr_any (zk (he pins s σ H _ I h) fun v s1 ⟨x,H1,I1,r1,q1⟩=>⟨σ,H1,I1,q1⟩) I.quiet hs
def tRet (te:TE):TS:=fun D σ H=>te σ H D.rt
theorem znw (he:PE X e te):PS X (.Return (some e) pos) (tRet te):=by
 intro pins s σ H D I h
 exact wpAny_Return_some (zk (he pins s σ H _ I h) fun v s1 ⟨x,H1,I1,r1,q1⟩=>⟨x,σ,H1,I1,r1,q1⟩)
def tIfS (c:TT) (t u:TS):TS:=fun D σ H=>c σ H fun b H1=>if b=true then t D σ H1 else u D σ H1
theorem zr5 {c:Expr} {a b:List Stmt} {tc:TT} (hc:PT X c tc) (ha:zW X a t) (hb:zW X b u):PS X (.If c a b pos) (tIfS tc t u):=by
 intro pins s σ H D I h
 refine wpAny_If (zk (hc pins s σ H _ I h) fun d s1 ⟨H1,I1,q1⟩=>?_)
 cases d with
 | true=>exact ha pins s1 σ H1 D I1 q1
 | false=>exact hb pins s1 σ H1 D I1 q1
end
abbrev TG:=V→St→Hp→(St→Hp→Prop)→Prop
abbrev TGs:=List V→St→Hp→(St→Hp→Prop)→Prop
def PG (X:Cx) (target:Expr) (t:TG):Prop:=
 ∀(pins:List (Addr×Obj)) (s:Shared) (σ:St) (H:Hp) (v:V) (u:Value) (Q:St→Hp→Prop),Inv X pins σ H s→RelV v u→t v σ H Q→
  wpAny (model X.prog X.w) X.A (assign target X.env u) (fun _ s'=> ∃σ' H',Inv X pins σ' H' s'∧Q σ' H') X.xe s
def qr (X:Cx) (ts:List Expr) (t:TGs):Prop:=
 ∀(pins:List (Addr×Obj)) (s:Shared) (σ:St) (H:Hp) (vs:List V) (us:List Value) (Q:St→Hp→Prop),Inv X pins σ H s→Vals vs us→t vs σ H Q→
  wpAny (model X.prog X.w) X.A (assignInOrder ((assignEach ts X.env).map (·.2)) us) (fun _ s'=> ∃σ' H',Inv X pins σ' H' s'∧Q σ' H') X.xe s
abbrev TSet:=V→V→V→Hp→(Hp→Prop)→Prop
def PSet (X:Cx) (t:TSet):Prop:=
 ∀(pins:List (Addr×Obj)) (s:Shared) (σ:St) (H:Hp) (o i v:V) (ov iv u:Value) (Q:Hp→Prop),Inv X pins σ H s→RelV o ov→RelV i iv→RelV v u→t o i v H Q→
  wpAny (model X.prog X.w) X.A (setItem ov iv u) (fun _ s'=> ∃H',Inv X pins σ H' s'∧Q H') X.xe s
section
variable {X:Cx} {pos:Pos}
def zjc (i:Nat):TG:=fun v σ H Q=>Q (σ.set i (some v)) H
theorem zjo {i:Nat} {x:Str} (hN:X.N.Nodup) (hi:X.N[i]? =some x) (hx:qh X.env.scope x) (hf:X.fn x=true∨X.env.scope.names.lookup x=some .local:=by first | exact .inl rfl | exact .inr rfl | assumption):PG X (.Name x pos) (zjc i):=by
 intro pins s σ H v u Q I r h
 exact wpAny_assign_Name (zej I hN hi hx r (fun s' I'=>⟨_,H,I',h⟩) hf)
def gNil:TGs:=fun vs σ H Q=>vs=[]∧Q σ H
def zra (t:TG) (u:TGs):TGs:=fun vs σ H Q=> ∃v r,vs=v::r∧t v σ H fun σ' H'=>u r σ' H' Q
theorem zoo:qr X [] gNil:=by
 intro pins s σ H vs us Q I r h
 obtain ⟨e,h⟩:=h
 subst e
 cases r
 exact assignInOrder_nil ⟨σ,H,I,h⟩
theorem zbs {e:Expr} {es:List Expr} {t:TG} {u:TGs} (h1:PG X e t) (h2:qr X es u)
  (hs:(assignEach (e::es) X.env).map (·.2)=assign e X.env::(assignEach es X.env).map (·.2):=by rfl):qr X (e::es) (zra t u):=by
 intro pins s σ H vs us Q I r h
 obtain ⟨v,vr,e1,h⟩:=h
 subst e1
 cases r with
 | cons r rr=>
  rw [hs]
  refine assignInOrder_cons (zk (h1 pins s σ H _ _ _ I r h) fun _ s1 ⟨σ1,H1,I1,q1⟩=>?_)
  exact h2 pins s1 σ1 H1 _ _ Q I1 rr q1
def gTup (K:PySem.W.Frag) (n:Nat) (t:TGs):TG:=fun v σ H Q=> ∃a xs,v= .ref a∧SqT K H a xs∧xs.length=n∧t xs σ H Q
theorem znb {es:List Expr} {k:Nat} {t:TGs} {n:Nat} (hc:X.calm=true) (h:qr X es t)
  (hn:(assignEach es X.env).length=n:=by rfl) (hst:(assignEach es X.env).findIdx? (·.1)=none:=by rfl):PG X (.Tuple es k pos) (gTup X.K n t):=by
 intro pins s σ H v u Q I r hw
 obtain ⟨a,xs,e1,hq,hl,hw⟩:=hw
 subst e1
 cases r
 obtain ⟨its,rv,ht,hz⟩:=I.tuple hq
 refine assign_Tuple_tuple (I.ok.hd hc) ht (by simp [hn,←hl,rv.length]) hst fun h' hx=>?_
 have I1:Inv X pins σ H {s with heap:=h'}:=I.kept (t':=s.toks) fun b o e=>hx b o (Nat.ne_of_lt (Heap.lt_size e)) e
 exact h pins _ σ H xs _ Q I1 (by simpa using rv) hw
def gSub (to ti:TE) (t:TSet):TG:=fun v σ H Q=>to σ H fun o H1=>ti σ H1 fun i H2=>t o i v H2 fun H3=>Q σ H3
theorem zlm {o i:Expr} {to ti:TE} {t:TSet} (ho:PE X o to) (hi:PE X i ti) (hs:PSet X t)
  (ha: ∀v,assign (.Subscript o i pos) X.env v=(do
   let ov ←holding [v] (eval o X.env)
   let iv ←holding [v,ov] (eval i X.env)
   standAt pos
   holding [v,ov,iv] (setItem ov iv v)
   release [v,ov,iv] []):=by intro _;rfl):PG X (.Subscript o i pos) (gSub to ti t):=by
 intro pins s σ H v u Q I r h
 rw [ha]
 refine wpAny_bind (wpAny_holding (zk (ho pins s σ H _ I h) fun ov s1 ⟨x,H1,I1,r1,q1⟩=>?_))
 refine wpAny_bind (wpAny_holding (zk (hi pins s1 σ H1 _ I1 q1) fun iv s2 ⟨y,H2,I2,r2,q2⟩=>?_))
 refine wpAny_bind (wpAny_standAt (wpAny_bind (wpAny_holding (zk (hs pins s2 σ H2 x y v ov iv u _ I2 r1 r2 r q2) fun _ s3 ⟨H3,I3,q3⟩=>?_))))
 exact wpAny_release ⟨σ,H3,I3,q3⟩
def tAsg (te:TE) (g:TG):TS:=fun D σ H=>te σ H fun x H1=>g x σ H1 D.nx
theorem zlf {tg e:Expr} {te:TE} {g:TG} (he:PE X e te) (hg:PG X tg g) (hs:swapsWithSole [tg] e pos.line X.env=pure false:=by rfl) (hw:swappedStores [tg] e X.env=pure none:=by rfl)
  (h1:(assignEach [tg] X.env).map (·.2)=[assign tg X.env]:=by rfl):PS X (.Assign [tg] e pos) (tAsg te g):=by
 intro pins s σ H D I h
 refine wpAny_Assign_stores (zk (he pins s σ H _ I h) fun v s1 ⟨x,H1,I1,r1,q1⟩=>?_) hs hw
 rw [h1]
 exact zk (hg pins s1 σ H1 x v _ I1 r1 q1) fun _ s2 q=>q
theorem zns {i:Nat} {x:Str} {e:Expr} {te:TE} {pos':Pos} (hN:X.N.Nodup) (hi:X.N[i]? =some x) (hx:qh X.env.scope x) (he:PE X e te) (hs:swapsWith e (some (.Name x pos')) pos.line X.env=pure false:=by rfl) (hf:X.fn x=true∨X.env.scope.names.lookup x=some .local:=by first | exact .inl rfl | exact .inr rfl | assumption):
  PS X (.Assign [.Name x pos'] e pos) (tAsg te (zjc i)):=by
 intro pins s σ H D I h
 refine wpAny_Assign_Name (zk (he pins s σ H _ I h) fun v s1 ⟨y,H1,I1,r1,q1⟩=>?_) hs
 exact zej I1 hN hi hx r1 (fun s2 I2=>⟨_,H1,I2,q1⟩) hf
end
structure It where
 go:Nat→Hp→Prop
 yld:Nat→Hp→V→Hp→Prop
 stop:Nat→Hp→Prop
def FpOk (X:Cx) (pins:List (Addr×Obj)) (H:Hp) (b:Addr):Prop:=
 H b=none∧b≠X.env.locals∧b∉X.fs∧(b∈X.ex∨X.s₀.heap.objs.size≤b)∧(∀x c,X.env.cells.lookup x=some c→c≠b)∧∀p∈X.pn++pins,p.1≠b
theorem Inv.fpOk {X:Cx} {pins:List (Addr×Obj)} {σ:St} {H H':Hp} {s:Shared} {b:Addr} (I:Inv X pins σ H s) (hb:s.heap.objs.size≤b) (hn:H' b=none):FpOk X pins H' b:=by
 refine ⟨hn,Nat.ne_of_gt (Nat.lt_of_lt_of_le I.lt hb),I.nofs hb,.inr (Nat.le_trans I.sz hb),fun x c e z=>?_,fun p hp z=>?_⟩
 ·obtain ⟨v,q⟩:=I.cell x c e
  exact absurd (Nat.lt_of_lt_of_le q.lt (by rw [z];exact hb)) (Nat.lt_irrefl _)
 ·exact absurd (Nat.lt_of_lt_of_le (Heap.lt_size (I.pin p hp).1) (by rw [z];exact hb)) (Nat.lt_irrefl _)
structure Turn (P:Program) (w:World) (K:PySem.W.Frag) (tg:Expr) (J:It) (fp:List Addr) (it:Addr) (tn:Nat→Heap→Prop):Prop where
 mem:it∈fp
 obj: ∀i h,tn i h→∀b∈fp,∃o,h.get? b=some o∧∀v,o.data≠ .cell v
 keep: ∀i h h',tn i h→(∀b∈fp,∀o,h.get? b=some o→h'.get? b=some o)→tn i h'
 item: ∀(X:Cx),X.prog=P→X.w=w→X.K=K→X.calm=true→∀(i:Nat) (pins:List (Addr×Obj)) (s:Shared) (σ:St) (H:Hp) (E:Value→Shared→Prop),Inv X pins σ H s→(∀b∈fp,FpOk X pins H b)→tn i s.heap→J.go i H→
  wpAny (model P w) X.A (pyNext (.ref it)) (fun r s1=> ∃u,r=some u∧
   wpAny (model P w) X.A (letOwnedTupleGo tg (.ref it) u) (fun _ s2=> ∃x H',Inv X pins σ H' s2∧RelV x u∧J.yld i H x H'∧tn (i+1) s2.heap∧∀b∈fp,H' b=none) E s1) E s
 done: ∀(X:Cx),X.prog=P→X.w=w→X.K=K→X.calm=true→∀(i:Nat) (pins:List (Addr×Obj)) (s:Shared) (σ:St) (H:Hp) (E:Value→Shared→Prop),Inv X pins σ H s→(∀b∈fp,FpOk X pins H b)→tn i s.heap→J.stop i H→
  wpAny (model P w) X.A (pyNext (.ref it)) (fun r s1=>r=none∧Inv X pins σ H s1) E s
 self: ∀(A:Around) (i:Nat) (s:Shared) (Q:Value→Shared→Prop) (E:Value→Shared→Prop),tn i s.heap→Q (.ref it) s→wpAny (model P w) A (pyIter (.ref it)) Q E s
abbrev TI:=St→Hp→(It→Hp→Prop)→Prop
def PIE (X:Cx) (pins:List (Addr×Obj)) (σ:St) (tg:Expr) (R:It→Hp→Prop) (itv:Value) (s2:Shared):Prop:=
 ∃(it:Addr) (fp:List Addr) (tn:Nat→Heap→Prop) (J:It) (H':Hp),itv= .ref it∧Inv X pins σ H' s2∧Turn X.prog X.w X.K tg J fp it tn∧tn 0 s2.heap∧(∀b∈fp,FpOk X pins H' b)∧R J H'
def PI (X:Cx) (tg iter:Expr) (wi:TI):Prop:=
 ∀(pins:List (Addr×Obj)) (s:Shared) (σ:St) (H:Hp) (R:It→Hp→Prop),Inv X pins σ H s→wi σ H R→
  wpAny (model X.prog X.w) X.A (eval iter X.env) (fun v s1=>wpAny (model X.prog X.w) X.A (pyIter v) (PIE X pins σ tg R) X.xe s1) X.xe s
theorem zl8 {M:Model} {A:Around} {E:Value→Shared→Prop} {s:Shared} {tg:Expr} {it:Addr} {u:Value} {o:Obj} {n:String} {vs:Array Value} {Q:Unit→Shared→Prop} (ho:s.heap.get? it=some o) (hc:o.cls= .type n) (hd:o.data= .fields vs)
    (hn:["enumerate","zip","dict_itemiterator","dict_reverseitemiterator","odict_iterator","itertools.zip_longest","itertools.pairwise"].contains n=false) (hQ:Q () s):wpAny M A (letOwnedTupleGo tg (.ref it) u) Q E s:=by
  unfold letOwnedTupleGo
  cases tg <;> first
    | exact wpAny_pure hQ
    | (cases u <;> first
        | exact wpAny_pure hQ
        | (refine wpAny_bind (wpAny_load ho ?_)
           rw [hc,hd]
           show wpAny M A (if (["enumerate","zip","dict_itemiterator","dict_reverseitemiterator","odict_iterator","itertools.zip_longest","itertools.pairwise"].contains n && vs[0]? ==some (rawInt _))=true then _ else _) Q E s
           rw [if_neg (by intro h;rw [hn,Bool.false_and] at h;cases h)]
           exact wpAny_pure hQ))
def Itl (K:PySem.W.Frag) (a:Addr):It:=
 ⟨fun i H=> ∃xs x,SqL K H a xs∧xs[i]? =some x,fun i H x H'=>H'=H∧∀xs,SqL K H a xs→xs[i]? =some x,fun i H=> ∃xs,SqL K H a xs∧xs.length≤i⟩
def Itr (lo:Int) (n:Nat):It:=⟨fun i _=>i < n,fun i H x H'=>H'=H∧x= .int (lo+i),fun i _=>n≤i⟩
theorem zlg {P:Program} {w:World} {K:PySem.W.Frag} {tg:Expr} (a it:Addr):Turn P w K tg (Itl K a) [it] it (fun i h=>h.IsListIter it a i) where
 mem:=by simp
 obj:=fun i h st b hb=>by
  have e:b=it:=by simpa using hb
  subst e
  obtain ⟨o,e,c,d⟩:=st
  exact ⟨o,e,fun v z=>by rw [d] at z;cases z⟩
 keep:=fun i h h' st k=>st.at fun o e=>k it (by simp) o e
 item:=by
  intro X hP hw hK hc i pins s σ H E I hf st hg
  subst hP hw hK
  obtain ⟨xs,x,hq,hx⟩:=hg
  obtain ⟨its,rv,p,hz⟩:=I.list hq
  obtain ⟨u,hu,ru⟩:=rv.get hx
  obtain ⟨f0,f1,f2,f3,f4,f5⟩:=hf it (by simp)
  refine wpAny_pyNext_list_item st p.isList (x:=u) (by simpa using hu) fun h' st' sb=>?_
  have I1:Inv X pins σ H {s with heap:=h'}:=I.turned (t':=s.toks) (fun b o hb e=>(sb.2 b hb).trans e) f0 f1 f3 f4 f5
  obtain ⟨o,e,c,d⟩:=id st'
  exact ⟨u,rfl,zl8 (s:={s with heap:=h'}) e c d (by decide) ⟨x,H,I1,ru,⟨rfl,fun ys hy=>by rw [I.list_inj hy hq];exact hx⟩,st',fun b hb=>(hf b hb).1⟩⟩
 done:=by
  intro X hP hw hK hc i pins s σ H E I hf st hg
  subst hP hw hK
  obtain ⟨xs,hq,hx⟩:=hg
  obtain ⟨its,rv,p,hz⟩:=I.list hq
  obtain ⟨f0,f1,f2,f3,f4,f5⟩:=hf it (by simp)
  have hl:=rv.length
  exact wpAny_pyNext_list_end (I.ok.hd hc) st p.isList (by simp;omega) fun h' eb=>⟨rfl,I.turned (t':=s.toks) (fun b o hb e=>eb b o hb e) f0 f1 f3 f4 f5⟩
 self:=fun _ _ _ _ _ st h=>wpAny_pyIter_listiter st h
theorem zi8 {P:Program} {w:World} {K:PySem.W.Frag} {tg:Expr} (it:Addr) (lo:Int) (n:Nat):Turn P w K tg (Itr lo n) [it] it (fun i h=>IsRangeIter h it (lo+(i:Nat)*1) ((n:Int) - (i:Nat)) 1) where
 mem:=by simp
 obj:=fun i h st b hb=>by
  have e:b=it:=by simpa using hb
  subst e
  exact ⟨_,st,fun v z=>by
   have z':Data.fields _=Data.cell v:=z
   cases z'⟩
 keep:=fun i h h' st k=>k it (by simp) _ st
 item:=by
  intro X hP hw hK hc i pins s σ H E I hf st hg
  subst hP hw hK
  obtain ⟨f0,f1,f2,f3,f4,f5⟩:=hf it (by simp)
  have W:=Walks.range (prog:=X.prog) (w:=X.w) (I.ok.hd hc) it lo 1 n
  refine W.item i s _ _ hg st fun v h' tk hv st' kk=>?_
  obtain ⟨t,rfl⟩:=hv
  have I1:Inv X pins σ H {s with heap:=h',toks:=tk}:=I.turned (fun b o hb e=>kk b o (by simpa using hb) e) f0 f1 f3 f4 f5
  refine ⟨_,rfl,zl8 (s:={s with heap:=h',toks:=tk}) (n:="range_iterator") st' rfl rfl (by decide) ⟨.int (lo+i),H,I1,⟨t,?_⟩,⟨rfl,rfl⟩,st',fun b hb=>(hf b hb).1⟩⟩
  rw [Int.mul_one]
 done:=by
  intro X hP hw hK hc i pins s σ H E I hf st hg
  subst hP hw hK
  obtain ⟨f0,f1,f2,f3,f4,f5⟩:=hf it (by simp)
  exact wpAny_pyNext_range_end (I.ok.hd hc) st (by have:n≤i:=hg;omega) fun h' eb=>⟨rfl,I.turned (t':=s.toks) (fun b o hb e=>eb b o hb e) f0 f1 f3 f4 f5⟩
 self:=fun _ _ _ _ _ st h=>wpAny_pyIter_rangeiter st h
section
variable {X:Cx} {tg:Expr}
def zs5 (K:PySem.W.Frag) (tl:TE):TI:=fun σ H R=>tl σ H fun x H1=> ∃a,x= .ref a∧(∃xs,SqL K H1 a xs)∧R (Itl K a) H1
theorem zpu {l:Expr} {tl:TE} (hl:PE X l tl):PI X tg l (zs5 X.K tl):=by
 intro pins s σ H R I h
 refine zk (hl pins s σ H _ I h) fun v s1 ⟨x,H1,I1,r1,q1⟩=>?_
 obtain ⟨a,e,⟨xs,hq⟩,q⟩:=q1
 subst e
 cases r1
 obtain ⟨its,rv,p,hz⟩:=I1.list hq
 refine wpAny_pyIter_list p.isList ?_
 refine ⟨s1.heap.objs.size,[s1.heap.objs.size],_,_,H1,rfl,I1.kept (t':=s1.toks) fun b o e=>Heap.get?_push_of_some _ e,zlg a _,⟨_,Heap.get?_push_size _ rfl,rfl,rfl⟩,fun b hb=>?_,q⟩
 have e:b=s1.heap.objs.size:=by simpa using hb
 subst e
 exact I1.fpOk (Nat.le_refl _) (I1.hok.fresh (Nat.le_refl _))
theorem zmc {pins:List (Addr×Obj)} {σ:St} {H:Hp} {s:Shared} {R:It→Hp→Prop} {E:Value→Shared→Prop} {lo hi:Int} {t u v:Tok} {tk:Nat} (I:Inv X pins σ H s) (h1: -(2 ^ 62)≤lo) (h2:lo < 2 ^ 62) (h3: -(2 ^ 62)≤hi) (h4:hi < 2 ^ 62)
  (q:R (Itr lo (hi - lo).toNat) H):wpAny (model X.prog X.w) X.A (pyIter (.ref s.heap.objs.size)) (PIE X pins σ tg R) E {s with heap:=s.heap.push {cls:= .type "range",data:= .fields #[.int lo t,.int hi u,.int 1 v]},toks:=tk}:=by
 refine wpAny_pyIter_range (IsRange.new ..) (small_one h1 h2 h3 h4) ?_
 have I1:Inv X pins σ H {s with heap:=s.heap.push {cls:= .type "range",data:= .fields #[.int lo t,.int hi u,.int 1 v]},toks:=tk}:=I.kept fun b o e=>Heap.get?_push_of_some _ e
 refine ⟨(s.heap.push {cls:= .type "range",data:= .fields #[.int lo t,.int hi u,.int 1 v]}).objs.size,[(s.heap.push {cls:= .type "range",data:= .fields #[.int lo t,.int hi u,.int 1 v]}).objs.size],_,_,H,rfl,
  I1.kept (t':=tk) fun b o e=>Heap.get?_push_of_some _ e,zi8 _ lo (hi - lo).toNat,?_,fun b hb=>?_,q⟩
 ·have e1:lo+((0:Nat):Int)*1=lo:=by simp
  have e2:(((hi - lo).toNat:Nat):Int) - ((0:Nat):Int)=Builtin.Range.rangeSize lo hi 1:=by rw [rangeSize_one];split <;> omega
  show IsRangeIter _ _ (lo+((0:Nat):Int)*1) ((((hi - lo).toNat:Nat):Int) - ((0:Nat):Int)) 1
  rw [e1,e2]
  exact Heap.get?_push_size _ rfl
 ·have e:b=(s.heap.push {cls:= .type "range",data:= .fields #[.int lo t,.int hi u,.int 1 v]}).objs.size:=by simpa using hb
  subst e
  exact I1.fpOk (Nat.le_refl _) (I1.hok.fresh (Nat.le_refl _))
def zte (ta:TA):TI:=fun σ H R=>ta σ H fun vs H1=> ∃j:Int,vs=[.int j]∧ -(2 ^ 62)≤j∧j < 2 ^ 62∧R (Itr 0 j.toNat) H1
theorem zkz {a:Expr} {ta:TA} {p pos:Pos} (hg:Gl X "range") (hm:X.mg "range" =none) (ha:PA X [a] ta) (hs:starEach [a] X.env=[(false,eval a X.env)]:=by rfl):PI X tg (.Call (.Name "range" p) [a] [] pos) (zte ta):=by
 intro pins s σ H R I h
 refine Call_ (zib I hg hm boot_range (PyProof.Rows.callWith_type1 (zk (ha pos pins s σ H _ I h) fun us s1 ⟨vs,H1,I1,r1,q1⟩=>?_) hs rfl))
 obtain ⟨j,e,q1,q2,q⟩:=q1
 subst e
 cases r1 with
 | cons r rr=>
  cases rr
  obtain ⟨t,rfl⟩:=r
  exact call_range_1 (zmc I1 (by omega) (by omega) q1 q2 (by simpa using q))
def tFor (wi:TI) (g:TG) (tb:TS):TS:=fun D σ H=>wi σ H fun J H1=> ∃W:Nat→Nat→St→Hp→Prop,(∃m,W 0 m σ H1)∧∀i m σ H,W i m σ H→
 (J.stop i H∧D.nx σ H)∨(J.go i H∧∃N:St→Hp→Prop,(∀σ' H',N σ' H'→∃m',m' < m∧W (i+1) m' σ' H')∧∀x H',J.yld i H x H'→g x σ H' fun σ2 H2=>tb {D with nx:=N,ct:=N,bk:=D.nx} σ2 H2)
def zg2 (fp:List Addr) (h:Heap):List (Addr×Obj):=fp.filterMap fun b=>(h.get? b).map fun o=>(b,o)
theorem zda {fp:List Addr} {h:Heap} {b:Addr} {o:Obj} (hb:b∈fp) (e:h.get? b=some o):(b,o)∈zg2 fp h:=List.mem_filterMap.mpr ⟨b,hb,by rw [e];rfl⟩
theorem zjy {fp:List Addr} {h:Heap} {p:Addr×Obj} (hp:p∈zg2 fp h):p.1∈fp∧h.get? p.1=some p.2:=by
 obtain ⟨b,hb,e⟩:=List.mem_filterMap.mp hp
 cases q:h.get? b with
 | none=>rw [q] at e;cases e
 | some o=>
  rw [q] at e
  have e':(b,o)=p:=Option.some.inj e
  subst e'
  exact ⟨hb,q⟩
theorem Inv.pinned {pins:List (Addr×Obj)} {σ:St} {H:Hp} {s:Shared} {fp:List Addr} (I:Inv X pins σ H s) (hf: ∀b∈fp,FpOk X pins H b) (ho: ∀b∈fp,∃o,s.heap.get? b=some o∧∀v,o.data≠ .cell v):Inv X (pins++zg2 fp s.heap) σ H s:=
 I.pins_of fun p hp=>(List.mem_append.mp hp).elim (fun z=>I.pin p (List.mem_append_right _ z)) fun z=>by
  obtain ⟨hb,e⟩:=zjy z
  obtain ⟨f0,f1,f2,_⟩:=hf p.1 hb
  obtain ⟨o,e',d⟩:=ho p.1 hb
  rw [e] at e';cases e'
  exact ⟨e,f0,f1,f2,d⟩
theorem Inv.unpinned {pins pl:List (Addr×Obj)} {σ:St} {H:Hp} {s:Shared} (I:Inv X (pins++pl) σ H s):Inv X pins σ H s:=I.pins_of fun p hp=>I.pin p (List.mem_append_right _ (List.mem_append_left _ hp))
theorem zrb {iter:Expr} {body:List Stmt} {wi:TI} {g:TG} {tb:TS} {pos:Pos} (hp:PassesOwn (model X.prog X.w) X.A X.env X.xe) (hc:X.calm=true) (hi:PI X tg iter wi) (hg:PG X tg g) (hb:zW X body tb)
  (hs: ∀x,foldedSetIterable iter X.env x=pure x:=by intro _;rfl):PS X (.For tg iter body [] pos) (tFor wi g tb):=by
 intro pins s σ H D I h
 refine wpAny_For (zk (hi pins s σ H _ I h) fun v s1 h1=>zk h1 fun itv s2 h2=>?_) hs
 obtain ⟨it,fp,tn,J,H2,e,I2,T,st2,f2,W,⟨m0,w0⟩,turn⟩:=h2
 subst e
 have stat: ∀{H':Hp},(∀b∈fp,H' b=none)→∀b∈fp,FpOk X pins H' b:=fun hn b hb=>⟨hn b hb,(f2 b hb).2⟩
 refine codeAny_forLoop_any (fun n s'=> ∃i σ' H',Inv X pins σ' H' s'∧tn i s'.heap∧(∀b∈fp,H' b=none)∧W i n σ' H') ?_ m0 ⟨0,σ,H2,I2,st2,fun b hb=>(f2 b hb).1,w0⟩
 rintro n s3 ⟨i,σ3,H3,I3,st3,fr3,w3⟩
 rcases turn i n σ3 H3 w3 with ⟨stop,qn⟩ | ⟨go,N,hN,step⟩
 ·refine wpAny_passesOwn hp (zk (T.done X rfl rfl rfl hc i pins s3 σ3 H3 X.xe I3 (stat fr3) st3 stop) fun r s4 ⟨hr,I4⟩=>?_)
  subst hr
  exact wpAny_execs_nil ⟨σ3,H3,I4,qn⟩
 ·refine wpAny_passesOwn hp (zk (T.item X rfl rfl rfl hc i pins s3 σ3 H3 X.xe I3 (stat fr3) st3 go) fun r s4 ⟨u,hr,h4⟩=>?_)
  subst hr
  refine wpAny_passesOwn hp (zk h4 fun _ s5 ⟨x,H5,I5,r5,y5,st5,fr5⟩=>?_)
  have I5':=I5.pinned (stat fr5) (T.obj _ _ st5)
  refine wpAny_passesOwn hp (zk (hg _ s5 σ3 H5 x u _ I5' r5 (step x H5 y5)) fun _ s6 ⟨σ6,H6,I6,q6⟩=>?_)
  refine wpAny_passesOwn hp (zk (hb _ s6 σ6 H6 _ I6 q6) fun f s7 q7=>?_)
  have again: ∀{σ7:St} {H7:Hp},Inv X (pins++zg2 fp s5.heap) σ7 H7 s7→N σ7 H7→∃m,m < n∧∃i σ' H',Inv X pins σ' H' s7∧tn i s7.heap∧(∀b∈fp,H' b=none)∧W i m σ' H':=fun {σ7 H7} I7 n7=>by
   obtain ⟨m',hm,w7⟩:=hN σ7 H7 n7
   refine ⟨m',hm,i+1,σ7,H7,I7.unpinned,T.keep _ _ _ st5 fun b hb o e=>(I7.pin (b,o) (List.mem_append_right _ (List.mem_append_right _ (zda hb e)))).1,fun b hb=>?_,w7⟩
   obtain ⟨o,e,d⟩:=T.obj _ _ st5 b hb
   exact (I7.pin (b,o) (List.mem_append_right _ (List.mem_append_right _ (zda hb e)))).2.1
  cases f with
  | next=>obtain ⟨σ7,H7,I7,n7⟩:=q7;exact again I7 n7
  | cont=>obtain ⟨σ7,H7,I7,n7⟩:=q7;exact again I7 n7
  | brk=>obtain ⟨σ7,H7,I7,q7⟩:=q7;exact ⟨σ7,H7,I7.unpinned,q7⟩
  | ret v=>obtain ⟨x7,σ7,H7,I7,r7,q7⟩:=q7;exact ⟨x7,σ7,H7,I7.unpinned,r7,q7⟩
end
abbrev R2:=V→V→Hp→VK→Prop
def OpR (X:Cx) (f:Value→Value→Sem Value) (r:R2):Prop:=
 ∀(pins:List (Addr×Obj)) (s:Shared) (σ:St) (H:Hp) (x y:V) (v u:Value) (Q:VK),Inv X pins σ H s→RelV x v→RelV y u→r x y H Q→
  wpAny (model X.prog X.w) X.A (f v u) (EP X pins σ Q) X.xe s
def UnR (X:Cx) (f:Value→Sem Value) (r:V→Hp→VK→Prop):Prop:=
 ∀(pins:List (Addr×Obj)) (s:Shared) (σ:St) (H:Hp) (x:V) (v:Value) (Q:VK),Inv X pins σ H s→RelV x v→r x H Q→
  wpAny (model X.prog X.w) X.A (f v) (EP X pins σ Q) X.xe s
def yF (X:Cx) (f:Value) (r:List V→Hp→VK→Prop):Prop:=
 ∀(pins:List (Addr×Obj)) (s:Shared) (σ:St) (H:Hp) (xs:List V) (us:List Value) (Q:VK),Inv X pins σ H s→Vals xs us→r xs H Q→
  wpAny (model X.prog X.w) X.A (call f us) (EP X pins σ Q) X.xe s
def TruR (X:Cx) (r:V→Hp→(Bool→Hp→Prop)→Prop):Prop:=
 ∀(pins:List (Addr×Obj)) (s:Shared) (σ:St) (H:Hp) (x:V) (v:Value) (Q:Bool→Hp→Prop),Inv X pins σ H s→RelV x v→r x H Q→
  wpAny (model X.prog X.w) X.A (truthy v) (TP X pins σ Q) X.xe s
def tOp (r:R2) (ta tb:TE):TE:=fun σ H Q=>ta σ H fun x H1=>tb σ H1 fun y H2=>r x y H2 Q
def tUn (r:V→Hp→VK→Prop) (ta:TE):TE:=fun σ H Q=>ta σ H fun x H1=>r x H1 Q
def rI (C:Int→Int→Prop) (g:Int→Int→V):R2:=fun x y H Q=> ∃i j,x= .int i∧y= .int j∧C i j∧Q (g i j) H
def yP (g:Int→Int→V):R2:=fun x y H Q=> ∃i j,x= .int i∧y= .int j∧Q (g i j) H
def rU (g:Int→V):V→Hp→VK→Prop:=fun x H Q=> ∃i,x= .int i∧Q (g i) H
section
variable {X:Cx} {a b c:Expr} {ta tb tc:TE} {pos:Pos}
theorem binT (ha:PE X a ta) (hb:PE X b tb) {pins:List (Addr×Obj)} {s:Shared} {σ:St} {H:Hp} {R:V→V→Hp→Prop} (I:Inv X pins σ H s)
  (h:ta σ H fun x H1=>tb σ H1 fun y H2=>R x y H2) {Q:Value→Shared→Prop} {f:Value→Value→Sem Value}
  (hf: ∀v u s2 x y H2,Inv X pins σ H2 s2→RelV x v→RelV y u→R x y H2→wpAny (model X.prog X.w) X.A (f v u) Q X.xe s2):
  wpAny (model X.prog X.w) X.A (eval a X.env) (fun v s₁=>wpAny (model X.prog X.w) X.A (eval b X.env) (fun u s₂=>wpAny (model X.prog X.w) X.A (f v u) Q X.xe s₂) X.xe s₁) X.xe s:=by
 refine zk (ha pins s σ H _ I h) fun v s1 ⟨x,H1,I1,r1,q1⟩=>?_
 refine zk (hb pins s1 σ H1 _ I1 q1) fun u s2 ⟨y,H2,I2,r2,q2⟩=>?_
 exact hf v u s2 x y H2 I2 r1 r2 q2
theorem zs3 {op:Operator} {r:R2} (ho:OpR X (binaryOp op) r) (ha:PE X a ta) (hb:PE X b tb):PE X (.BinOp a op b pos) (tOp r ta tb):=by
 intro pins s σ H Q I h
 exact wpAny_BinOp (binT ha hb I h fun v u s2 x y H2 I2 rx ry q=>ho pins s2 σ H2 x y v u Q I2 rx ry q)
theorem zty {op:UnaryOp} {r:V→Hp→VK→Prop} (ho:UnR X (unaryOp op) r) (ha:PE X a ta):PE X (.UnaryOp op a pos) (tUn r ta):=by
 intro pins s σ H Q I h
 exact UnaryOp_ (zk (ha pins s σ H _ I h) fun v s1 ⟨x,H1,I1,r1,q1⟩=>ho pins s1 σ H1 x v Q I1 r1 q1)
theorem opI {f:Value→Value→Sem Value} {C:Int→Int→Prop} {g:Int→Int→Int}
  (rule: ∀(i j:Int) (t u:Tok) (s:Shared) (Q:Value→Shared→Prop) (E:Value→Shared→Prop),C i j→Q (.int (g i j) s.toks) {s with toks:=s.toks+1}→wpAny (model X.prog X.w) X.A (f (.int i t) (.int j u)) Q E s):
  OpR X f (rI C fun i j=> .int (g i j)):=by
 intro pins s σ H x y v u Q I rx ry h
 obtain ⟨i,j,rfl,rfl,hc,q⟩:=h
 obtain ⟨t,rfl⟩:=rx
 obtain ⟨t',rfl⟩:=ry
 exact rule i j t t' s _ _ hc ⟨.int (g i j),H,I.tok _,⟨_,rfl⟩,q⟩
theorem opI0 {f:Value→Value→Sem Value} {g:Int→Int→Int}
  (rule: ∀(i j:Int) (t u:Tok) (s:Shared) (Q:Value→Shared→Prop) (E:Value→Shared→Prop),Q (.int (g i j) s.toks) {s with toks:=s.toks+1}→wpAny (model X.prog X.w) X.A (f (.int i t) (.int j u)) Q E s):
  OpR X f (yP fun i j=> .int (g i j)):=by
 intro pins s σ H x y v u Q I rx ry h
 obtain ⟨i,j,rfl,rfl,q⟩:=h
 obtain ⟨t,rfl⟩:=rx
 obtain ⟨t',rfl⟩:=ry
 exact rule i j t t' s _ _ ⟨.int (g i j),H,I.tok _,⟨_,rfl⟩,q⟩
theorem opB0 {f:Value→Value→Sem Value} {g:Int→Int→Bool}
  (rule: ∀(i j:Int) (t u:Tok) (s:Shared) (Q:Value→Shared→Prop) (E:Value→Shared→Prop),Q (.bool (g i j)) s→wpAny (model X.prog X.w) X.A (f (.int i t) (.int j u)) Q E s):
  OpR X f (yP fun i j=> .bl (g i j)):=by
 intro pins s σ H x y v u Q I rx ry h
 obtain ⟨i,j,rfl,rfl,q⟩:=h
 obtain ⟨t,rfl⟩:=rx
 obtain ⟨t',rfl⟩:=ry
 exact rule i j t t' s _ _ ⟨.bl (g i j),H,I,rfl,q⟩
def CDiv (i j:Int):Prop:=0 < j∧j < 1073741824
def CPow (i j:Int):Prop:=0≤j∧j≤1000000∧i.natAbs < 2 ^ 64
def CMul (i j:Int):Prop:=(-(2 ^ 64) < i∧i < 2 ^ 64)∨(-(2 ^ 64) < j∧j < 2 ^ 64)
theorem CMul.ok {i j:Int} (h:CMul i j):IntMulOk i j:=by
 rcases h with ⟨h1,h2⟩ | ⟨h1,h2⟩
 ·exact .of_left (intBits_le_64 h1 h2)
 ·exact .of_right (intBits_le_64 h1 h2)
theorem op_add:OpR X (binaryOp .Add) (yP fun i j=> .int (i+j)):=opI0 fun _ _ _ _ _ _ _ q=>add_int q
theorem ze6:OpR X (binaryOp .Sub) (yP fun i j=> .int (i - j)):=opI0 fun _ _ _ _ _ _ _ q=>sub_int q
theorem op_mul:OpR X (binaryOp .Mult) (rI CMul fun i j=> .int (i*j)):=opI fun _ _ _ _ _ _ _ hc q=>mul_int q hc.ok
theorem zj8:OpR X (binaryOp .FloorDiv) (rI CDiv fun i j=> .int (i / j)):=opI fun i j _ _ _ _ _ hc q=>by
 have h1:(0:Int) < j:=hc.1
 have h2:j < 1073741824:=hc.2
 exact floordiv_int (by omega) (by rw [Int.fdiv_eq_ediv_of_nonneg i (by omega)];exact q) (.inl (PyProof.noPylong_small (by omega)))
theorem yo:OpR X (binaryOp .Mod) (rI (fun _ j=>0 < j) fun i j=> .int (i % j)):=opI fun i j _ _ _ _ _ hc q=>by
 have h1:(0:Int) < j:=hc
 exact mod_int' (by omega) (by rw [Int.fmod_eq_emod_of_nonneg i (by omega)];exact q)
theorem zd6:OpR X (binaryOp .Pow) (rI CPow fun i j=> .int (i ^ j.toNat)):=opI fun _ _ _ _ _ _ _ hc q=>pow_int_small hc.1 hc.2.1 hc.2.2 q
theorem unI {f:Value→Sem Value} {g:Int→Int}
  (rule: ∀(i:Int) (t:Tok) (s:Shared) (Q:Value→Shared→Prop) (E:Value→Shared→Prop),Q (.int (g i) s.toks) {s with toks:=s.toks+1}→wpAny (model X.prog X.w) X.A (f (.int i t)) Q E s):
  UnR X f (rU fun i=> .int (g i)):=by
 intro pins s σ H x v Q I rx h
 obtain ⟨i,rfl,q⟩:=h
 obtain ⟨t,rfl⟩:=rx
 exact rule i t s _ _ ⟨.int (g i),H,I.tok _,⟨_,rfl⟩,q⟩
theorem zr6:UnR X (unaryOp .USub) (rU fun i=> .int (-i)):=unI fun _ _ _ _ _ q=>neg_int q
end
section
variable {X:Cx} {a b c:Expr} {ta tb tc:TE} {pos:Pos}
theorem zdv {pins:List (Addr×Obj)} {σ:St} {H:Hp} {s:Shared} {Q:VK} {k k':Bool} (I:Inv X pins σ H s) (q:Q (.bl k) H) (e:k=k'):EP X pins σ Q (.bool k') s:=by
 subst e
 exact ⟨.bl k,H,I,rfl,q⟩
theorem zql:OpR X (compareOp .Lt) (yP fun i j=> .bl (decide (i < j))):=opB0 fun _ _ _ _ _ _ _ q=>lt_int q
theorem ziy:OpR X (compareOp .LtE) (yP fun i j=> .bl (decide (i≤j))):=opB0 fun _ _ _ _ _ _ _ q=>le_int q
theorem zp0:OpR X (compareOp .Gt) (yP fun i j=> .bl (decide (j < i))):=opB0 fun _ _ _ _ _ _ _ q=>gt_int q
theorem zg9:OpR X (compareOp .In) (fun x y H Q=> ∃i j,x= .str i∧y= .str j∧Q (.bl (!(Builtin.Str.occurrences j i 0 j.length 1).isEmpty)) H):=by
 intro pins s σ H x y v u Q I rx ry h
 obtain ⟨i,j,rfl,rfl,q⟩:=h
 obtain ⟨t,rfl⟩:=rx
 obtain ⟨t',rfl⟩:=ry
 exact in_str (zdv I q rfl)
theorem OpR.or {f:Value→Value→Sem Value} {r r':R2} (h:OpR X f r) (h':OpR X f r'):OpR X f (fun x y H Q=>r x y H Q∨r' x y H Q):=by
 intro pins s σ H x y v u Q I rx ry q
 rcases q with q | q
 ·exact h pins s σ H x y v u Q I rx ry q
 ·exact h' pins s σ H x y v u Q I rx ry q
theorem yA (b:Expr) {op:CmpOp} (h:op≠ .In:=by decide) (h2:op≠ .NotIn:=by decide):behindInMarks op b=false:=by
 have e1:(op==CmpOp.In)=false:=by cases op <;> first | rfl | exact absurd rfl h
 have e2:(op==CmpOp.NotIn)=false:=by cases op <;> first | rfl | exact absurd rfl h2
 cases b <;> simp [behindInMarks,e1,e2]
theorem zoq {op:CmpOp} {r:R2} (ho:OpR X (compareOp op) r) (ha:PE X a ta) (hb:PE X b tb) (hm:behindInMarks op b=false):PE X (.Compare a [op] [b] pos) (tOp r ta tb):=by
 intro pins s σ H Q I h
 exact wpAny_Compare1 (binT ha hb I h fun v u s2 x y H2 I2 rx ry q=>ho pins s2 σ H2 x y v u Q I2 rx ry q) hm
def zod (t:TE):TT:=fun σ H Q=>t σ H fun x H'=> ∃k,x= .bl k∧Q k H'
theorem zka {op:CmpOp} {r:R2} (ho:OpR X (compareOp op) r) (ha:PE X a ta) (hb:PE X b tb) (hm:behindInMarks op b=false):PT X (.Compare a [op] [b] pos) (zod (tOp r ta tb)):=by
 intro pins s σ H Q I h
 refine wpAny_isTrue_Compare1 (zk (ha pins s σ H _ I h) fun v s1 ⟨x,H1,I1,r1,q1⟩=>zk (hb pins s1 σ H1 _ I1 q1) fun u s2 ⟨y,H2,I2,r2,q2⟩=>
  zk (ho pins s2 σ H2 x y v u _ I2 r1 r2 q2) fun c s3 ⟨z,H3,I3,r3,k,e,q3⟩=>?_) hm
 subst e
 cases r3
 exact wpAny_truthy_bool ⟨H3,I3,q3⟩
def zj6 (r r':R2) (ta tb tc:TE):TE:=fun σ H Q=>ta σ H fun x H1=>tb σ H1 fun y H2=>r x y H2 fun z H3=> ∃k,z= .bl k∧
 (if k=true then tc σ H3 fun w' H4=>r' y w' H4 Q else Q (.bl false) H3)
theorem zmd {op op':CmpOp} {r r':R2} (ho:OpR X (compareOp op) r) (ho':OpR X (compareOp op') r') (ha:PE X a ta) (hb:PE X b tb) (hc:PE X c tc)
  (hm:lastMarks [op,op'] [b,c]=false:=by with_unfolding_all rfl):PE X (.Compare a [op,op'] [b,c] pos) (zj6 r r' ta tb tc):=by
 intro pins s σ H Q I h
 refine Compare_chain (zk (ha pins s σ H _ I h) fun v s1 ⟨x,H1,I1,r1,q1⟩=>chain_link (zk (hb pins s1 σ H1 _ I1 q1) fun u s2 ⟨y,H2,I2,r2,q2⟩=>
  zk (ho pins s2 σ H2 x y v u _ I2 r1 r2 q2) fun d s3 ⟨z,H3,I3,r3,k,e,q3⟩=>?_)) hm
 subst e
 cases r3
 refine wpAny_truthy_bool ?_
 cases k with
 | false=>exact ite_ff ⟨.bl false,H3,I3,rfl,q3⟩
 | true=>exact ite_tt (chain_last (zk (hc pins s3 σ H3 _ I3 q3) fun w' s4 ⟨z',H4,I4,r4,q4⟩=>ho' pins s4 σ H4 y z' u w' Q I4 r2 r4 q4))
theorem zmt {op op':CmpOp} {r r':R2} (ho:OpR X (compareOp op) r) (ho':OpR X (compareOp op') r') (ha:PE X a ta) (hb:PE X b tb) (hc:PE X c tc)
  (hm:lastMarks [op,op'] [b,c]=false:=by with_unfolding_all rfl):PT X (.Compare a [op,op'] [b,c] pos) (zod (zj6 r r' ta tb tc)):=by
 intro pins s σ H Q I h
 refine isTrue_chain (zk (ha pins s σ H _ I h) fun v s1 ⟨x,H1,I1,r1,q1⟩=>test_link (zk (hb pins s1 σ H1 _ I1 q1) fun u s2 ⟨y,H2,I2,r2,q2⟩=>
  zk (ho pins s2 σ H2 x y v u _ I2 r1 r2 q2) fun d s3 ⟨z,H3,I3,r3,k,e,q3⟩=>?_)) hm
 subst e
 cases r3
 refine wpAny_truthy_bool ?_
 cases k with
 | false=>
  obtain ⟨k',e',q'⟩:=q3
  cases e'
  exact ite_ff ⟨H3,I3,q'⟩
 | true=>
  refine ite_tt (test_last (zk (hc pins s3 σ H3 _ I3 q3) fun w' s4 ⟨z',H4,I4,r4,q4⟩=>zk (ho' pins s4 σ H4 y z' u w' _ I4 r2 r4 q4) fun d' s5 ⟨z2,H5,I5,r5,k2,e2,q5⟩=>?_))
  subst e2
  cases r5
  exact wpAny_truthy_bool ⟨H5,I5,q5⟩
def TruV (K:PySem.W.Frag) (x:V) (H:Hp) (k:Bool):Prop:=
 match x with
 | .non=>k=false
 | .bl b=>k=b
 | .int i=>k=(i !=0)
 | .str y=>y.length≤sizeLine∧k=((y.length:Int) !=0)
 | .byt y=>y.size≤sizeLine∧k=((y.size:Int) !=0)
 | .ref p=>(∃xs,SqL K H p xs∧k= !xs.isEmpty)∨(∃xs,SqT K H p xs∧k= !xs.isEmpty)∨∃kvs,H p=some (.dK kvs)∧k= !kvs.isEmpty
 | _=>False
theorem zin {κ:Type} {kvs:List (κ×V)} {vs:List (κ×Value)} (r:KV kvs vs):(!vs.isEmpty)= !kvs.isEmpty:=by
 cases r <;> rfl
theorem zfj {xs:List V} {its:List Value} (r:Vals xs its):(!its.toArray.isEmpty)= !xs.isEmpty:=by
 cases r <;> simp
theorem zfe:(sizeLine:Nat) < 2 ^ 63:=by rw [sizeLine_eq];decide
theorem zq4:TruR X (fun x H Q=> ∃k,TruV X.K x H k∧Q k H):=by
 intro pins s σ H x v Q I rx h
 obtain ⟨k,e,q⟩:=h
 have hl:=zfe
 have hs:sizeLine=16777216:=sizeLine_eq
 cases x with
 | non=>
  cases rx
  have e':k=false:=e
  subst e'
  exact truthy_none ⟨H,I,q⟩
 | bl b=>
  cases rx
  have e':k=b:=e
  subst e'
  exact wpAny_truthy_bool ⟨H,I,q⟩
 | int i=>
  obtain ⟨t,rfl⟩:=rx
  have e':k=(i !=0):=e
  subst e'
  exact PySem.P.truthy_int ⟨H,I,q⟩
 | str y=>
  obtain ⟨t,rfl⟩:=rx
  obtain ⟨hy,e'⟩:y.length≤sizeLine∧k=((y.length:Int) !=0):=e
  subst e'
  exact PySem.P.truthy_str (by omega) ⟨H,I.tok _,q⟩
 | byt y=>
  obtain ⟨t,rfl⟩:=rx
  obtain ⟨hy,e'⟩:y.size≤sizeLine∧k=((y.size:Int) !=0):=e
  subst e'
  exact PySem.W.truthy_bytes (by omega) ⟨H,I.tok _,q⟩
 | ref p=>
  cases rx
  have e':(∃xs,SqL X.K H p xs∧k= !xs.isEmpty)∨(∃xs,SqT X.K H p xs∧k= !xs.isEmpty)∨∃kvs,H p=some (.dK kvs)∧k= !kvs.isEmpty:=e
  rcases e' with ⟨xs,hx,e'⟩ | ⟨xs,hx,e'⟩ | ⟨kvs,hx,e'⟩
  ·subst e'
   obtain ⟨its,r,pl,hz⟩:=I.list hx
   have hlen:=r.length
   exact wpAny_truthy_list pl.isList (by simp only [List.size_toArray];omega) ⟨H,I.tok _,by rw [zfj r];exact q⟩
  ·subst e'
   obtain ⟨its,r,pl,hz⟩:=I.tuple hx
   have hlen:=r.length
   exact truthy_tuple pl (by simp only [List.size_toArray];omega) ⟨H,I.tok _,by rw [zfj r];exact q⟩
  ·subst e'
   obtain ⟨hz,hS,vs,r,m⟩:kvs.length≤sizeLine∧(p==sysModules)=false∧∃vs,KV kvs vs∧s.heap.DictOf (zdn X.prog X.w) p vs:=I.hok p _ hx
   have hlen:kvs.length=vs.length:=Paired.length r
   exact wpAny_truthy_dict hS m (by omega) ⟨H,I.tok _,by rw [zin r];exact q⟩
 | _=>exact (show False from e).elim
theorem zmu (ha:PE X a ta) (he: ∀whole,isTrue a X.env whole=(do let v ←whole;standAt a.pos;holding [v] (truthy v))):
  PT X a (fun σ H Q=>ta σ H fun x H'=> ∃k,TruV X.K x H' k∧Q k H'):=by
 intro pins s σ H Q I h
 exact isTrue_plain (zk (ha pins s σ H _ I h) fun v s1 ⟨x,H1,I1,r1,q1⟩=>zq4 pins s1 σ H1 x v Q I1 r1 q1) (he _)
theorem op_add_str:OpR X (binaryOp .Add) (fun x y H Q=> ∃i j,x= .str i∧y= .str j∧i.length+j.length≤sizeLine∧Q (.str (i++j)) H):=by
 intro pins s σ H x y v u Q I rx ry h
 obtain ⟨i,j,rfl,rfl,hz,q⟩:=h
 obtain ⟨t,rfl⟩:=rx
 obtain ⟨t',rfl⟩:=ry
 exact add_str (fun t' tk=>⟨.str (i++j),H,I.tok _,⟨_,rfl⟩,q⟩) hz
theorem zmf {x:V} {us:List Value} (r:Vals [x] us): ∃u,us=[u]∧RelV x u:=by
 cases r with
 | cons r1 r2=>cases r2;exact ⟨_,rfl,r1⟩
theorem zl7 {x y:V} {us:List Value} (r:Vals [x,y] us): ∃u w',us=[u,w']∧RelV x u∧RelV y w':=by
 cases r with
 | cons r1 r2=>
  cases r2 with
  | cons r3 r4=>cases r4;exact ⟨_,_,rfl,r1,r3⟩
def LenV (K:PySem.W.Frag) (x:V) (H:Hp) (n:Nat):Prop:=
 match x with
 | .str y=>y.length≤sizeLine∧n=y.length
 | .byt y=>y.size≤sizeLine∧n=y.size
 | .ref p=>(∃xs,SqL K H p xs∧n=xs.length)∨∃xs,SqT K H p xs∧n=xs.length
 | _=>False
theorem zmp:yF X (.builtin "len") (fun xs H Q=> ∃x n,xs=[x]∧LenV X.K x H n∧Q (.int n) H):=by
 intro pins s σ H xs us Q I r h
 obtain ⟨x,n,rfl,e,q⟩:=h
 obtain ⟨u,rfl,rx⟩:=zmf r
 have hl:=zfe
 have hs:sizeLine=16777216:=sizeLine_eq
 cases x with
 | str y=>
  obtain ⟨t,rfl⟩:=rx
  obtain ⟨hy,e'⟩:y.length≤sizeLine∧n=y.length:=e
  subst e'
  exact len_str (by omega) ⟨.int _,H,I.tok _,⟨_,rfl⟩,q⟩
 | byt y=>
  obtain ⟨t,rfl⟩:=rx
  obtain ⟨hy,e'⟩:y.size≤sizeLine∧n=y.size:=e
  subst e'
  exact PySem.W.len_bytes (by omega) ⟨.int _,H,I.tok _,⟨_,rfl⟩,q⟩
 | ref p=>
  cases rx
  have e':(∃xs,SqL X.K H p xs∧n=xs.length)∨∃xs,SqT X.K H p xs∧n=xs.length:=e
  rcases e' with ⟨xs,hx,e'⟩ | ⟨xs,hx,e'⟩
  ·subst e'
   obtain ⟨its,r',pl,hz⟩:=I.list hx
   have hlen:=r'.length
   exact Calls.call_len_list pl.isList (by simp only [List.size_toArray];omega) ⟨.int xs.length,H,I.tok _,⟨_,by simp only [List.size_toArray];rw [hlen]⟩,q⟩
  ·subst e'
   obtain ⟨its,r',pl,hz⟩:=I.tuple hx
   have hlen:=r'.length
   exact len_tuple pl (by simp only [List.size_toArray];omega) ⟨.int xs.length,H,I.tok _,⟨_,by simp only [List.size_toArray];rw [hlen]⟩,q⟩
 | _=>exact (show False from e).elim
end
structure ObjM (h:Heap) (x dx C:Addr) (mA:Str→Option Value):Prop where
 obj:h.get? x=some (PySem.W.instObj C dx)
 ns:h.Ns1 dx mA
 ne:dx≠x
theorem zkh {h:Heap} {dx:Addr} {mA:Str→Option Value} (n:h.Ns1 dx mA): ∃od,h.get? dx=some od∧∀name,PySem.W.lookIn name od=some (mA name):=by
 obtain ⟨o,es,ep,ho,hd,hk,_,hm⟩:=n
 refine ⟨o,ho,fun name=>?_⟩
 have e:=hm name
 unfold nsFind findBy at e
 rw [←Array.find?_toList] at e
 unfold PySem.W.lookIn
 rw [hd]
 dsimp only
 split
 ·rename_i y q
  rw [q] at e
  exact congrArg some e
 ·rename_i q
  rw [q] at e
  have a:es.toList.any (·.refKey)=false:=by
   rw [List.any_eq_false]
   intro y hy
   obtain ⟨z,t,hkey⟩:=hk y (Array.mem_toList_iff.mp hy)
   simp [DictEntry.refKey,hkey]
  have a': ¬es.toList.any (·.refKey)=true:=by rw [a];exact Bool.false_ne_true
  rw [if_neg a']
  exact congrArg some e
theorem ObjM.look {h:Heap} {x dx C:Addr} {mA:Str→Option Value} (I:ObjM h x dx C mA): ∃od,PySem.W.InstAt h x (PySem.W.instObj C dx) C (some od)∧∀name,PySem.W.lookIn name od=some (mA name):=
 let ⟨od,ho,hl⟩:=zkh I.ns
 ⟨od,⟨I.obj,rfl,rfl,ho⟩,hl⟩
section
variable {P:Program} {w:World} {H H':Hp} {h h':Heap} {a C dx:Addr} {fs fs':List (Str×V)}
theorem zot (hok:HOk P w H h) (e:H a=some (.ins C dx fs)): ∃mA,ObjM h a dx C mA∧(∀f,RelO (fs.lookup f) (mA f))∧PySem.Within mA (fs.map (·.1))∧fs.length≤1000∧H dx=some (.own a):=by
 obtain ⟨d,z,ne,ob,mA,n,r,q⟩:=(show ObjOk P w H h a (.ins C dx fs) from hok a _ e)
 exact ⟨mA,⟨ob,n,ne⟩,r,q,z,d⟩
end
structure Cls (K:PySem.W.Frag) (C:Addr):Prop where
 pg:PySem.W.plainGet K C Str.empty=true
 hd:PySem.W.hasDictIn K C=true
 po:PySem.W.plainOver K C=true
 sa:PySem.W.findIn K (.ref C) "__setattr__" =some (some (.builtin "object.__setattr__"))
theorem Cls.get {K:PySem.W.Frag} {C:Addr} (c:Cls K C) (f:Str):PySem.W.plainGet K C f=true:=c.pg
section
variable {X:Cx} {pins:List (Addr×Obj)} {σ:St} {H:Hp} {s:Shared} {a C dx:Addr} {fs:List (Str×V)} {f:Str} {v:V} {A:Around} {E:Value→Shared→Prop}
theorem zph {prog:Program} {w:World} {env:Env} {e:Expr} {f:Str} {pos:Pos} {s:Shared} {Q:Value→Shared→Prop} (hb:attributeBase e f env (eval e env)=eval e env)
  (h:wpAny (model prog w) A (eval e env) (fun o s₁=>wpAny (model prog w) A (getAttr o f true) Q E s₁) E s):wpAny (model prog w) A (eval (.Attribute e f pos) env) Q E s:=
 Attribute_any_ h (by rw [arm_eval_Attribute,hb])
end
section
variable {X:Cx} {pins:List (Addr×Obj)} {σ:St} {H:Hp} {s:Shared} {A:Around} {E:Value→Shared→Prop} {Q:Value→Shared→Prop} {c:Value} {b:Bool}
inductive TyOf (K:PySem.W.Frag) (H:Hp):V→Value→Prop where
 | non:TyOf K H .non (.type "NoneType")
 | bl (x:Bool):TyOf K H (.bl x) (.type "bool")
 | int (i:Int):TyOf K H (.int i) (.type "int")
 | str (x:Str):TyOf K H (.str x) (.type "str")
 | flt (x:UInt64):TyOf K H (.flt x) (.type "float")
 | lst {a:Addr} {xs:List V} (e:H a=some (.lst xs)):TyOf K H (.ref a) (.type "list")
 | frz {a:Addr} {o:Obj} {xs:List V} (e:H a=some (.frz o (.lst xs))):TyOf K H (.ref a) (.type "list")
 | tup {a:Addr} {xs:List V} (e:H a=some (.tup xs)):TyOf K H (.ref a) (.type "tuple")
 | dK {a:Addr} {kvs:List (yt×V)} (e:H a=some (.dK kvs)):TyOf K H (.ref a) (.type "dict")
 | dT {a:Addr} {kvs:List (MK×V)} (e:H a=some (.dT kvs)):TyOf K H (.ref a) (.type "dict")
 | ins {a C dx:Addr} {fs:List (Str×V)} (e:H a=some (.ins C dx fs)) (cl:Cls K C) (ha:PySem.W.findIn K (.ref C) "__class__" =some (some (.builtin "object.__class__")))
  (hn:PySem.W.specialIn K (.builtin "object.__class__") "__get__" =some (some (.builtin "getset_descriptor.__get__"))) (htk:PySem.W.takesIn K (.builtin "object.__class__")=some true)
  (hm:PySem.W.mroIn K C (.type "object")=some true):TyOf K H (.ref a) (.ref C)
theorem zkm {x:V} {u t:Value} (I:Inv X pins σ H s) (rx:RelV x u) (ty:TyOf X.K H x t) (e:PySem.W.kitOne X.K t c=some b) (h: ∀tk,Q (.bool b) {s with toks:=tk}):
  wpAny (model X.prog X.w) A (call (.builtin "isinstance") [u,c]) Q E s:=by
 cases ty with
 | non=>cases (show u=Value.none from rx);exact PySem.W.kia_one PySem.W.kitx_none I.kIn True.intro e (fun z=>nomatch z) h
 | bl y=>cases (show u=Value.bool y from rx);exact PySem.W.kia_one PySem.W.kitx_bool I.kIn True.intro e (fun z=>nomatch z) h
 | int i=>obtain ⟨t,q⟩:=(show ∃t,u=Value.int i t from rx);cases q;exact PySem.W.kia_one PySem.W.kitx_int I.kIn True.intro e (fun z=>nomatch z) h
 | str y=>obtain ⟨t,q⟩:=(show ∃t,u=Value.str y t from rx);cases q;exact PySem.W.kia_one PySem.W.kitx_str I.kIn True.intro e (fun z=>nomatch z) h
 | flt y=>obtain ⟨t,q⟩:=(show ∃t,u=Value.float y t from rx);cases q;exact PySem.W.kia_one PySem.W.kitx_float I.kIn True.intro e (fun z=>nomatch z) h
 | @lst a xs ea=>
  cases (show u=Value.ref a from rx)
  obtain ⟨_,_,n,_,h1⟩:=(show ObjOk X.prog X.w H s.heap a (.lst xs) from I.hok a _ ea)
  exact PySem.W.kia_one PySem.W.kitx_list I.kIn ⟨_,h1,rfl⟩ e (fun z=>nomatch z) h
 | @frz a ob xs ea=>
  cases (show u=Value.ref a from rx)
  obtain ⟨_,_,_,n,_,h1⟩:=(show ObjOk X.prog X.w H s.heap a (.frz ob (.lst xs)) from I.hok a _ ea)
  exact PySem.W.kia_one PySem.W.kitx_list I.kIn ⟨_,h1,rfl⟩ e (fun z=>nomatch z) h
 | @tup a xs ea=>
  cases (show u=Value.ref a from rx)
  obtain ⟨_,_,_,p⟩:=(show ObjOk X.prog X.w H s.heap a (.tup xs) from I.hok a _ ea)
  obtain ⟨o,h1,h2,_⟩:=p
  exact PySem.W.kia_one PySem.W.kitx_tuple I.kIn ⟨o,h1,h2⟩ e (fun z=>nomatch z) h
 | @dK a kvs ea=>
  cases (show u=Value.ref a from rx)
  obtain ⟨_,_,vs,_,p⟩:=(show ObjOk X.prog X.w H s.heap a (.dK kvs) from I.hok a _ ea)
  obtain ⟨o,es,ep,h1,h2,_⟩:=p
  exact PySem.W.kia_one PySem.W.kitx_dict I.kIn ⟨o,h1,h2.1⟩ e (fun z=>nomatch z) h
 | @dT a kvs ea=>
  cases (show u=Value.ref a from rx)
  obtain ⟨_,_,xs,_,o,es,ep,h1,h2,_⟩:=(show ObjOk X.prog X.w H s.heap a (.dT kvs) from I.hok a _ ea)
  exact PySem.W.kia_one PySem.W.kitx_dict I.kIn ⟨o,h1,h2.1⟩ e (fun z=>nomatch z) h
 | @ins a C dx fs ea cl ha hn htk hm=>
  cases (show u=Value.ref a from rx)
  obtain ⟨mA,O,_⟩:=zot I.hok ea
  obtain ⟨od,J,_⟩:=O.look
  exact PySem.W.kia_one (PySem.W.kitx_own (cl.get _) cl.hd ha hn htk hm) I.kIn J e (fun z=>nomatch z) h
end
structure Room (k:Nat) (A:Around):Prop where
 hd:A.handled=none
 dp:A.depth+3*k+5 < recursionLimit
 un:A.units+16*k+200 < cLine
theorem Room.mono {j k:Nat} {A:Around} (r:Room k A) (h:j≤k):Room j A:=⟨r.hd,by have:=r.dp;omega,by have:=r.un;omega⟩
theorem Room.deeper {k:Nat} {A:Around} (r:Room (k+1) A) (env:Env):Room k (A.deeper env):=
 ⟨r.hd,by have:=r.dp;show A.depth+1+3*k+5 < _;omega,by have:=r.un;show A.units+3+16*k+200 < _;omega⟩
theorem zim {A:Around} {C:Addr} {us:List Value} {kw:List (Str×Value)}:(A.under (.builtin "type.__call__" ⟨.ref C::us,kw⟩)).depth=A.depth+1:=by
 first | rfl | simp [Around.under,Code.weight,Code.isCreation,Code.isGuard,Code.isCaller,Code.frames,Code.isFrame,guardIds]
theorem zi1 {A:Around} {C:Addr} {us:List Value} {kw:List (Str×Value)}:(A.under (.builtin "type.__call__" ⟨.ref C::us,kw⟩)).units=A.units+1:=by
 first | rfl | simp [Around.under,Code.cUnits,Code.frames,Code.isFrame]
theorem Room.make {k:Nat} {A:Around} (r:Room (k+1) A) (C:Addr) (us:List Value) (kw:List (Str×Value)):Room k (A.under (.builtin "type.__call__" ⟨.ref C::us,kw⟩)):=
 ⟨r.hd,by have:=r.dp;rw [zim];omega,by have:=r.un;rw [zi1];omega⟩
theorem Room.depth {k:Nat} {A:Around} (r:Room k A):A.depth < recursionLimit:=by have:=r.dp;omega
theorem Room.units {k:Nat} {A:Around} (r:Room k A):A.units+64 < cLine:=by have:=r.un;omega
def tNil:TA:=fun _ H Q=>Q [] H
def zpg (ta:TE) (tr:TA):TA:=fun σ H Q=>ta σ H fun x H1=>tr σ H1 fun xs H2=>Q (x::xs) H2
section
variable {X:Cx} {e:Expr} {es:List Expr} {te:TE} {t:TA} {pos:Pos}
theorem znl:PA X [] tNil:=fun _ _ _ _ H Q I h=>Calls.spliced_nil ⟨[],H,I,.nil,h⟩
theorem zhj (ha:PE X e te) (hr:PA X es t) (hs:starEach (e::es) X.env=(false,eval e X.env)::starEach es X.env:=by rfl):PA X (e::es) (zpg te t):=by
 intro pos pins s σ H Q I h
 rw [hs]
 show wpAny _ _ (spliced ((false,eval e X.env)::backTo pos (starEach es X.env))) _ _ s
 refine Calls.spliced_cons (zk (ha pins s σ H _ I h) fun u s1 ⟨x,H1,I1,r1,q1⟩=>?_)
 exact zk (hr pos pins s1 σ H1 _ I1 q1) fun us s2 ⟨xs,H2,I2,r2,q2⟩=>⟨x::xs,H2,I2,.cons r1 r2,q2⟩
def tTup (t:TA):TE:=fun σ H Q=>t σ H fun xs H1=>xs.length≤sizeLine∧∀p,H1 p=none→Q (.ref p) (zi H1 p (.tup xs))
def tLst (t:TA):TE:=fun σ H Q=>t σ H fun xs H1=>xs.length≤sizeLine∧∀p,H1 p=none→Q (.ref p) (zi H1 p (.lst xs))
theorem zr8 {x1} (h:PA X es t):PE X (.Tuple es x1 pos) (tTup t):=by
 intro pins s σ H Q I hq
 refine wpAny_Tuple_spliced (zk (h pos pins s σ H _ I hq) fun us s1 ⟨xs,H1,I1,r,z,q⟩=>⟨by rw [←r.length];exact z,?_⟩)
 have hf:H1 s1.heap.objs.size=none:=I1.hok.fresh (Nat.le_refl _)
 refine ⟨.ref s1.heap.objs.size,zi H1 s1.heap.objs.size (.tup xs),I1.laid (t':=s1.toks) (fun b u e=>Heap.get?_push_of_some _ e) (Nat.le_refl _) ?_,rfl,q _ hf⟩
 exact ⟨z,us,r,⟨_,Heap.get?_push_size _ rfl,rfl,_,rfl⟩⟩
theorem zr1 (h:PA X es t):PE X (.List es pos) (tLst t):=by
 intro pins s σ H Q I hq
 refine wpAny_List_spliced (zk (h pos pins s σ H _ I hq) fun us s1 ⟨xs,H1,I1,r,z,q⟩=>⟨by rw [←r.length];exact z,?_⟩)
 have hf:H1 s1.heap.objs.size=none:=I1.hok.fresh (Nat.le_refl _)
 refine ⟨.ref s1.heap.objs.size,zi H1 s1.heap.objs.size (.lst xs),I1.laid (t':=s1.toks) (fun b u e=>Heap.get?_push_of_some _ e) (Nat.le_refl _) ?_,rfl,q _ hf⟩
 exact ⟨z,us,0,r,Heap.get?_push_size _ rfl⟩
end
abbrev Sp:=List V→Hp→VK→XK→Prop
abbrev yZ:=List Env→Hp→Shared→XK→Value→Shared→Prop
structure Env0 (P:Program) (w:World) (K:PySem.W.Frag) (mg:Str→Option Value) (base:Heap) (A:Around) (outer:List Env) (s:Shared) (H:Hp):Prop where
 frames:A.frames=some outer
 mod:Mod K mg base
 bs: ∀b o,base.get? b=some o→s.heap.get? b=some o∧H b=none
 bsz:base.objs.size≤s.heap.objs.size
 funs:s.heap.FunFrames base outer
 frf: ∀b∈zM outer,H b=none
 hok:HOk P w H s.heap
 bare:AllBare s.gens
def CE (outer:List Env) (P:Program) (w:World) (H:Hp) (s:Shared) (Q:VK) (u:Value) (s':Shared):Prop:=
 ∃v H',s'.os=s.os∧AllBare s'.gens∧Un (zM outer) [] H H' s.heap s'.heap∧HOk P w H' s'.heap∧RelV v u∧Q v H'
def CR (CX:yZ) (outer:List Env) (P:Program) (w:World) (H:Hp) (s:Shared) (Q:VK) (E:XK) (r:Result) (s':Shared):Prop:=
 match r with
 | .ok (.ret u)=>CE outer P w H s Q u s'
 | .ok _=>False
 | .error e=>CX outer H s E e s'
structure FnOk (P:Program) (w:World) (K:PySem.W.Frag) (mg:Str→Option Value) (base:Heap) (CX:yZ) (k:Nat) (f:Addr) (fd:FuncData) (ps:List Str) (sp:Sp):Prop where
 len: ∀vs H Q E,sp vs H Q E→vs.length=ps.length
 run: ∀(A:Around) (outer:List Env) (s:Shared) (H:Hp) (args:Args) (us:List Value) (vs:List V) (Q:VK) (E:XK),Room k A→Env0 P w K mg base A outer s H→BindsTo s fd args (ps.zip us)→Vals vs us→sp vs H Q E→
  codeAny (model P w) A (.call (.ref f) args) (CR CX outer P w H s Q E) s
theorem FnOk.imp {P:Program} {w:World} {K:PySem.W.Frag} {mg:Str→Option Value} {base:Heap} {CX:yZ} {k:Nat} {f:Addr} {fd:FuncData} {ps:List Str} {sp sp':Sp} (F:FnOk P w K mg base CX k f fd ps sp)
  (h: ∀vs H Q E,sp' vs H Q E→sp vs H Q E):FnOk P w K mg base CX k f fd ps sp':=
 ⟨fun vs H Q E q=>F.len vs H Q E (h _ _ _ _ q),fun A outer s H args us vs Q E hr he hb hv hs=>F.run A outer s H args us vs Q E hr he hb hv (h _ _ _ _ hs)⟩
theorem Env0.make {P:Program} {w:World} {K:PySem.W.Frag} {mg:Str→Option Value} {base:Heap} {A:Around} {outer:List Env} {s:Shared} {H:Hp} (e:Env0 P w K mg base A outer s H) (C:Addr) (us:List Value) (kw:List (Str×Value)):
 Env0 P w K mg base (A.under (.builtin "type.__call__" ⟨.ref C::us,kw⟩)) outer s H:=⟨by first | exact e.frames | (simpa [Around.under,Code.envs,Code.isFrame,pushEnvs] using e.frames),e.mod,e.bs,e.bsz,e.funs,e.frf,e.hok,e.bare⟩
section
variable {X:Cx} {pins:List (Addr×Obj)} {σ:St} {H:Hp} {s s':Shared}
theorem Inv.env0 (I:Inv X pins σ H s):Env0 X.prog X.w X.K X.mg X.base X.A X.stack s H:=
 ⟨I.ok.frames,I.ok.mod,I.bs,Nat.le_trans I.ok.bsz I.sz,I.stack,I.stkFree,I.hok,I.bare⟩
theorem Inv.after {Q:VK} {u:Value} (I:Inv X pins σ H s) (h:CE X.stack X.prog X.w H s Q u s'):EP X pins σ Q u s':=by
 obtain ⟨v,H',os,bare,un,hok,r,q⟩:=h
 obtain ⟨hh,g,d,t,os'⟩:=s'
 obtain rfl:os'=s.os:=os
 exact ⟨v,H',I.call (h':=hh) (g':=g) (d':=d) (t':=t) (ch:=[]) un hok bare (fun b z=>absurd z (by simp)),r,q⟩
end
def zje (sp:Sp) (dvs:List V) (E:XK) (t:TA):TE:=fun σ H Q=>t σ H fun vs H1=>sp (vs++dvs) H1 Q E
def Binds (K:PySem.W.Frag) (fd:FuncData) (ps:List Str) (ds:List Value):Prop:=
 ∀(s:Shared) (us:List Value),K.In s.heap→(us++ds).length=ps.length→BindsTo s fd ⟨us,[]⟩ (ps.zip (us++ds))
theorem Binds.all {K:PySem.W.Frag} {fd:FuncData} {ps:List Str} (h: ∀us:List Value,us.length=ps.length→bindArgs fd ⟨us,[]⟩=pure (ps.zip us)):Binds K fd ps []:=fun s us _ hl=>by
 rw [List.append_nil] at hl ⊢
 exact .of_eq (h us hl)
def zff (CX:yZ) (X:Cx) (E:XK):Prop:=∀(pins:List (Addr×Obj)) (σ:St) (H:Hp) (s:Shared) (e:Value) (s':Shared),Inv X pins σ H s→CX X.stack H s E e s'→X.xe e s'
section
variable {X:Cx} {CX:yZ} {k:Nat} {f C:Addr} {fd:FuncData} {ps:List Str} {sp:Sp} {dvs:List V} {ds:List Value} {E:XK} {x m:Str} {p pos apos:Pos} {e o:Expr} {es:List Expr} {ta:TE} {t:TA}
theorem zsq {pins:List (Addr×Obj)} {σ:St} {H:Hp} {s:Shared} {Q:VK} {us:List Value} {vs:List V} (F:FnOk X.prog X.w X.K X.mg X.base CX k f fd ps sp) (hr:Room k X.A) (hb:Binds X.K fd ps ds) (hd:Vals dvs ds) (hx:zff CX X E)
  (I:Inv X pins σ H s) (r:Vals vs us) (h:sp (vs++dvs) H Q E):wpAny (model X.prog X.w) X.A (call (.ref f) us) (EP X pins σ Q) X.xe s:=by
 have r2:Vals (vs++dvs) (us++ds):=r.append hd
 have hl:(us++ds).length=ps.length:=by rw [←r2.length];exact F.len _ _ _ _ h
 refine wpAny_call (codeAny_mono (F.run X.A X.stack s H ⟨us,[]⟩ (us++ds) (vs++dvs) Q E hr I.env0 (hb s us I.kIn hl) r2 h) fun r s' hq=>?_)
 cases r with
 | error e=>exact hx pins σ H s e s' I hq
 | ok fl=>
  cases fl with
  | ret u=>exact I.after hq
  | next=>exact False.elim hq
  | brk=>exact False.elim hq
  | cont=>exact False.elim hq
theorem zp7 (F:FnOk X.prog X.w X.K X.mg X.base CX k f fd ps sp) (hr:Room k X.A) (hg:Gl X x) (hm:X.mg x=some (.ref f)) (hk:PySem.W.keepIn X.K (.ref f)=true) (hb:Binds X.K fd ps ds) (hd:Vals dvs ds) (hx:zff CX X E)
  (ha:PA X (e::es) t) (hdb:(x==("__debug__" :Str))=false:=by decide) (he:starEach (e::es) X.env=(false,eval e X.env)::starEach es X.env:=by rfl) (hpl:(backTo pos (starEach es X.env)).any (·.1)=false:=by rfl):
  PE X (.Call (.Name x p) (e::es) [] pos) (zje sp dvs E t):=by
 intro pins s σ H Q I h
 refine wpAny_Call_Name_kw (zc1 I hg hm ?_ hdb)
 refine PySem.W.callWith_K (h₀:=X.base) I.ok.mod.kin hk (zk (ha pos pins s σ H _ I h) fun us s1 ⟨vs,H1,I1,r,q⟩=>⟨I1.kIn,?_⟩) he hpl
 exact zsq F hr hb hd hx I1 r q
end
structure FnScope (N P:List Str) (sc:Scope):Prop where
 kind:sc.kind= .function
 co:sc.isCoroutine=false
 gen:sc.isGenerator=false
 nd:N.Nodup
 pre:N.take P.length=P
 par: ∀x∈P,sc.names.lookup x=some .local∨sc.names.lookup x=some .cell
 nofree: ∀y∈sc.names,y.2≠ .free
theorem zgx {kindOf:Str→Option NameKind} {x:Str}: ∀{binds:List (Str×Value)} {m:Str→Option Value},(∀v,(x,v)∉binds)→bindL kindOf binds m x=m x
 | [],_,_=>rfl
 | (n,v)::r,m,h=>by
  unfold bindL
  rw [zgx fun w hw=>h w (List.mem_cons_of_mem _ hw)]
  split
  ·have:x≠n:=by rintro rfl;exact h v List.mem_cons_self
   simp [this]
  ·rfl
theorem zgu {kindOf:Str→Option NameKind} {x:Str}: ∀{binds:List (Str×Value)} {m:Str→Option Value},(∀v,(x,v)∉binds)→bindC kindOf binds m x=m x
 | [],_,_=>rfl
 | (n,v)::r,m,h=>by
  unfold bindC
  rw [zgu fun w hw=>h w (List.mem_cons_of_mem _ hw)]
  split
  ·rfl
  ·have:x≠n:=by rintro rfl;exact h v List.mem_cons_self
   simp [this]
theorem zgr {kindOf:Str→Option NameKind} {x:Str} {v:Value}: ∀{P:List Str} {vs:List Value} {i:Nat} {m:Str→Option Value},P.Nodup→P[i]? =some x→vs[i]? =some v→kindOf x=some .local→
  bindL kindOf (P.zip vs) m x=some v
 | [],_,_,_,_,h,_,_=>by simp at h
 | _::_,[],_,_,_,_,h,_=>by simp at h
 | p::P,w::vs,0,m,nd,h1,h2,hk=>by
  simp at h1 h2;subst h1;subst h2
  show bindL kindOf ((p,w)::P.zip vs) m p=_
  unfold bindL
  rw [zgx fun v hv=>(List.nodup_cons.mp nd).1 (List.of_mem_zip hv).1,if_pos hk]
  simp
 | p::P,w::vs,i+1,m,nd,h1,h2,hk=>by
  show bindL kindOf ((p,w)::P.zip vs) m x=_
  unfold bindL
  exact zgr (i:=i) (List.nodup_cons.mp nd).2 (by simpa using h1) (by simpa using h2) hk
theorem zg7 {kindOf:Str→Option NameKind} {x:Str} {v:Value}: ∀{P:List Str} {vs:List Value} {i:Nat} {m:Str→Option Value},P.Nodup→P[i]? =some x→vs[i]? =some v→kindOf x≠some .local→
  bindC kindOf (P.zip vs) m x=some v
 | [],_,_,_,_,h,_,_=>by simp at h
 | _::_,[],_,_,_,_,h,_=>by simp at h
 | p::P,w::vs,0,m,nd,h1,h2,hk=>by
  simp at h1 h2;subst h1;subst h2
  show bindC kindOf ((p,w)::P.zip vs) m p=_
  unfold bindC
  rw [zgu fun v hv=>(List.nodup_cons.mp nd).1 (List.of_mem_zip hv).1,if_neg hk]
  simp
 | p::P,w::vs,i+1,m,nd,h1,h2,hk=>by
  show bindC kindOf ((p,w)::P.zip vs) m x=_
  unfold bindC
  exact zg7 (i:=i) (List.nodup_cons.mp nd).2 (by simpa using h1) (by simpa using h2) hk
def start (N:List Str) (vs:List V):St:=vs.map some++List.replicate (N.length - vs.length) none
def zK (CX:yZ) (P:Program) (w:World) (K:PySem.W.Frag) (mg:Str→Option Value) (base:Heap) (N:List Str) (qual:Str) (scope:Scope) (f:Addr) (cd:Value) (A:Around) (outer:List Env) (s:Shared) (H:Hp) (E:XK):Cx where
 prog:=P
 w:=w
 K:=K
 mg:=mg
 base:=base
 A:=A.deeper (envOfC qual scope s.heap.objs.size f cd)
 N:=N
 s₀:=s
 H₀:=H
 env:=envOfC qual scope s.heap.objs.size f cd
 outer:=outer
 stack:=envOfC qual scope s.heap.objs.size f cd::outer
 ex:=[]
 calm:=true
 fn:=fun _=>true
 pn:=[]
 xe:=fun e s'=>wpAny (model P w) (A.deeper (envOfC qual scope s.heap.objs.size f cd)) (leaving (envOfC qual scope s.heap.objs.size f cd) e) (fun _ s''=>CX outer H s E e s'') (fun e' s''=>CX outer H s E e' s'') s'
theorem zh9 {sc:Scope} {n:Nat} {x:Str} (h:sc.names.lookup x=some .cell): ∃c,(cellsFrom n sc.names []).lookup x=some c:=by
 have q:=PySem.W.cellsFrom_some sc.names n [] (.inl h)
 exact Option.isSome_iff_exists.mp q
theorem zg8 {CX:yZ} {P:Program} {w:World} {K:PySem.W.Frag} {mg:Str→Option Value} {base:Heap} {N ps:List Str} {qual:Str} {scope:Scope} {f:Addr} {cd:Value} {A:Around} {outer:List Env} {s s1:Shared} {H:Hp} {E:XK} {us:List Value} {vs:List V}
  (S:FnScope N ps scope) (hd:A.handled=none) (e0:Env0 P w K mg base A outer s H) (hl:vs.length=ps.length) (r:Vals vs us)
  (x:InCallC s s.heap.objs.size (bindL (envOfC qual scope s.heap.objs.size f cd).kindOf (ps.zip us) fun _=>none) (cellsFrom (s.heap.objs.size+1) scope.names []) (bindC (envOfC qual scope s.heap.objs.size f cd).kindOf (ps.zip us) fun _=>none) s1):
  Inv (zK CX P w K mg base N qual scope f cd A outer s H E) [] (start N vs) H s1:=by
 have hpl:ps.length≤N.length:=by have:=congrArg List.length S.pre;rw [List.length_take] at this;omega
 obtain ⟨h1,tk,rfl,hk⟩:=x.done
 have noA: ∀b:Addr,b∉(zK CX P w K mg base N qual scope f cd A outer s H E).ex:=fun b z=>absurd (show b∈([]:List Addr) from z) (by simp)
 refine ⟨⟨e0.mod,S.kind,rfl,rfl,Nat.le_refl _,fun y z c h1 h2=>?_,fun y hy=>?_,fun y c _ h=>?_,fun _=>hd,Around.frames_deeper e0.frames,.inr ⟨rfl,rfl⟩,fun b z=>absurd z (noA b),e0.bs,e0.bsz,fun b _ _=>noA b,fun b z=>absurd z (noA b),e0.funs,e0.frf⟩,
  rfl,e0.bare,Un.kept hk,⟨_,x.toInCall.ns,fun i y v h1 h2 h3=>?_⟩,fun y c h=>⟨_,x.cell y c h⟩,e0.hok.fresh (Nat.le_refl _),fun y c h=>?_,fun p hp=>absurd (show p∈([]:List (Addr×Obj)) from hp) (by simp),e0.hok.kept hk,?_⟩
 ·exact name_of_addr x.apart (PySem.mem_of_lookup h1) (PySem.mem_of_lookup h2)
 ·have hy:scope.names.lookup y=some .cell∨scope.names.lookup y=some .free:=hy
  rcases hy with hy | hy
  ·exact zh9 hy
  ·exact absurd rfl (S.nofree _ (PySem.mem_of_lookup hy))
 ·exact Nat.le_of_lt (x.above y c (PySem.mem_of_lookup h))
 ·have hi:i < vs.length:=by
   unfold start at h2
   by_cases hi:i < vs.length
   ·exact hi
   ·rw [List.getElem?_append_right (by simpa using hi)] at h2
    rw [List.getElem?_replicate] at h2
    split at h2 <;> cases h2
  have ha:vs[i]? =some v:=by
   unfold start at h2
   rw [List.getElem?_append_left (by simpa using hi),List.getElem?_map] at h2
   cases e:vs[i]? with
   | none=>rw [e] at h2;cases h2
   | some a=>rw [e] at h2;cases h2;rfl
  obtain ⟨u,hu,rv⟩:=r.get ha
  have hp:ps[i]? =some y:=by
   rw [←S.pre,List.getElem?_take_of_lt (by omega)];exact h1
  have ndP:ps.Nodup:=by rw [←S.pre];exact S.nd.sublist (List.take_sublist _ _)
  refine ⟨u,rv,?_⟩
  rcases S.par y (List.mem_of_getElem? hp) with k | k
  ·exact .inl ⟨k,zgr ndP hp hu k⟩
  ·obtain ⟨c,e⟩:=zh9 (n:=s.heap.objs.size+1) k
   refine .inr ⟨.inl k,c,e,?_⟩
   have q:=x.cell y c e
   rw [zg7 ndP hp hu (by show scope.names.lookup y≠_;rw [k];decide)] at q
   exact q
 ·exact e0.hok.fresh (Nat.le_of_lt (x.above y c (PySem.mem_of_lookup h)))
 ·unfold start
  show _=N.length
  rw [List.length_append,List.length_map,List.length_replicate]
  omega
theorem ztx {CX:yZ} {P:Program} {w:World} {K:PySem.W.Frag} {mg:Str→Option Value} {base:Heap} {k:Nat} {f:Addr} {name qual:Str} {params:Arguments} {body:List Stmt} {scope:Scope} {dV kV doc pm cdv ct oc:Value} {an od:Option Addr}
  {osl:Array (Option Value)} {N ps:List Str} {sp:Sp} (lk:K.lookup f=some ⟨oc,od,.func (PySem.W.fnOf name qual params body scope dV kV doc pm an cdv ct),osl⟩) (hcd:PySem.W.codeIn K cdv qual=true) (S:FnScope N ps scope)
  (len: ∀vs H Q E,sp vs H Q E→vs.length=ps.length)
  (hbody: ∀(A:Around) (outer:List Env) (s:Shared) (H:Hp) (vs:List V) (Q:VK) (E:XK),Room k (A.deeper (envOfC qual scope s.heap.objs.size f cdv))→sp vs H Q E→
   ∃t,zW (zK CX P w K mg base N qual scope f cdv A outer s H E) body t∧t {nx:=fun _ H'=>Q .non H',rt:=Q} (start N vs) H):
  FnOk P w K mg base CX (k+1) f (PySem.W.fnOf name qual params body scope dV kV doc pm an cdv ct) ps sp:=by
 refine ⟨len,fun A outer s H args us vs Q E hr e0 hb r hsp=>?_⟩
 have hl:=len _ _ _ _ hsp
 have KX:K.In s.heap:=e0.mod.kin.keeps fun b o e=>(e0.bs b o e).1
 have lim:s.heap.NoLimit:=e0.mod.nolimit.keeps fun b o e=>(e0.bs b o e).1
 have hkind: ∀y∈ps.zip us,scope.names.lookup y.1=some .local∨(scope.names.lookup y.1=some .cell∧((cellsFrom (s.heap.objs.size+1) scope.names []).lookup y.1).isSome=true):=fun ⟨n,v⟩ hy=>by
  rcases S.par n (List.of_mem_zip hy).1 with q | q
  ·exact .inl q
  ·exact .inr ⟨q,PySem.W.cellsFrom_some _ _ _ (.inl q)⟩
 refine codeAny_call_function hr.depth (KX _ _ lk) rfl S.co S.gen rfl (PySem.W.codeRec_of KX hcd) (hb _ _ _ _ ?_)
 refine wpAny_newFunctionEnv_cells S.kind hkind fun env he s1 x=>?_
 subst he
 refine ⟨lim.keeps x.toInCall.keep,codeAny_func ?_⟩
 obtain ⟨t,ht,hq⟩:=hbody A outer s H vs Q E (hr.deeper _) hsp
 have I:Inv (zK CX P w K mg base N qual scope f cdv A outer s H E) [] (start N vs) H s1:=zg8 S hr.hd e0 hl r x
 refine wpAny_mono (ht [] s1 (start N vs) H _ I hq) (fun fl s' hs=>?_) fun e s' hs=>hs
 have fin: ∀{σ':St} {H':Hp} {v:V} {u:Value},Inv (zK CX P w K mg base N qual scope f cdv A outer s H E) [] σ' H' s'→RelV v u→Q v H'→CE outer P w H s Q u s':=
  fun {σ' H' v u} J rv q=>⟨v,H',J.os,J.bare,J.base,J.hok,rv,q⟩
 cases fl with
 | ret u=>
  obtain ⟨v,σ',H',J,rv,q⟩:=hs
  exact fin J rv q
 | next=>
  obtain ⟨σ',H',J,q⟩:=hs
  exact fin (v:=V.non) (u:=Value.none) J rfl q
 | brk=>
  obtain ⟨_,_,_,q⟩:=hs
  exact False.elim q
 | cont=>
  obtain ⟨_,_,_,q⟩:=hs
  exact False.elim q
section
variable {X:Cx} {x:Str} {p pos:Pos} {e:Expr} {es:List Expr} {t:TA} {id T:String} {r:List V→Hp→VK→Prop}
def tCB (r:List V→Hp→VK→Prop) (t:TA):TE:=fun σ H Q=>t σ H fun vs H1=>r vs H1 Q
theorem zlt (hc:yF X (.builtin id) r) (hg:Gl X x) (hm:X.mg x=none) (hv:bootBuiltins x=some (.builtin id)) (ha:PA X (e::es) t) (hn:x≠"__name__" :=by decide) (hdb:(x==("__debug__" :Str))=false:=by decide)
  (he:starEach (e::es) X.env=(false,eval e X.env)::starEach es X.env:=by rfl) (hpl:(backTo pos (starEach es X.env)).any (·.1)=false:=by rfl):PE X (.Call (.Name x p) (e::es) [] pos) (tCB r t):=by
 intro pins s σ H Q I h
 refine wpAny_Call_Name_kw (zib I hg hm hv ?_ hn hdb)
 exact PyProof.Rows.callWith_builtin1 (zk (ha pos pins s σ H _ I h) fun us s1 ⟨vs,H1,I1,r1,q1⟩=>hc pins s1 σ H1 vs us Q I1 r1 q1) he hpl
theorem zln (hc:yF X (.type T) r) (hg:Gl X x) (hm:X.mg x=none) (hv:bootBuiltins x=some (.type T)) (ha:PA X (e::es) t) (hn:x≠"__name__" :=by decide) (hdb:(x==("__debug__" :Str))=false:=by decide)
  (he:starEach (e::es) X.env=(false,eval e X.env)::starEach es X.env:=by rfl) (hpl:(backTo pos (starEach es X.env)).any (·.1)=false:=by rfl):PE X (.Call (.Name x p) (e::es) [] pos) (tCB r t):=by
 intro pins s σ H Q I h
 refine wpAny_Call_Name_kw (zib I hg hm hv ?_ hn hdb)
 exact PyProof.Rows.callWith_type1 (zk (ha pos pins s σ H _ I h) fun us s1 ⟨vs,H1,I1,r1,q1⟩=>hc pins s1 σ H1 vs us Q I1 r1 q1) he hpl
end
end L2
namespace HT
open PySem PyProof.Rows
section
variable {prog:Program} {w:World} {A:Around} {E:Value→Shared→Prop} {s:Shared}
def sIx (n d:Nat):Option Int→Nat
 | none=>d
 | some v=>if v < 0 then (v+(n:Int)).toNat else min v.toNat n
theorem zre (n d:Nat) (hd:d≤n) (o:Option Int):sIx n d o≤n:=by
 cases o with
 | none=>exact hd
 | some v=>
  show (if v < 0 then (v+(n:Int)).toNat else min v.toNat n)≤n
  by_cases hv:v < 0
  ·rw [if_pos hv];omega
  ·rw [if_neg hv];exact Nat.min_le_right _ _
theorem zkg (v:Int) (n d:Nat):(if v < 0 then max (v+(n:Int)) 0 else min v (n:Int))=((sIx n d (some v):Nat):Int):=by
 show (if v < 0 then max (v+(n:Int)) 0 else min v (n:Int))=(((if v < 0 then (v+(n:Int)).toNat else min v.toNat n):Nat):Int)
 by_cases hv:v < 0
 ·simp only [if_pos hv];omega
 ·simp only [if_neg hv];omega
theorem zi7 (lo hi:Option Int) (n:Nat):Builtin.Slice.sliceAdjust lo hi 1 (n:Int)=(((sIx n 0 lo:Nat):Int),((sIx n n hi:Nat):Int)):=by
 have h1: ¬((1:Int) < 0):=by omega
 unfold Builtin.Slice.sliceAdjust
 simp only [h1,if_false]
 refine Prod.ext ?_ ?_
 ·cases lo with
  | none=>rfl
  | some v=>exact zkg v n 0
 ·cases hi with
  | none=>rfl
  | some v=>exact zkg v n n
theorem zis (i j:Nat):Builtin.Slice.slicePlaces (i:Int) (j:Int) 1=j - i:=by
 unfold Builtin.Slice.slicePlaces
 have h1:(1:Int) > 0:=by omega
 simp only [h1,if_true,Int.ediv_one]
 split <;> omega
theorem ze8 {v:Value} {o:Option Int} {Q:Option Int→Shared→Prop} (p:IsPart v o) (h:Q o s):wpAny (model prog w) A (Builtin.Slice.slicePartIndex v) Q E s:=by
 cases p with
 | none=>exact slicePart_none h
 | int i t=>exact slicePart_int h
theorem zei {sl:Addr} {vl vu:Value} {lo hi:Option Int} {n:Nat} {Q:Int×Int×Nat→Shared→Prop} (hs:s.heap.IsSliceOf sl vl vu .none) (pl:IsPart vl lo) (pu:IsPart vu hi)
  (h:Q (((sIx n 0 lo:Nat):Int),1,sIx n n hi - sIx n 0 lo) s):wpAny (model prog w) A (Builtin.Slice.sliceApplied (.ref sl) (pure (n:Int))) Q E s:=by
 obtain ⟨os,hos,hcs,hds⟩:=id hs
 unfold Builtin.Slice.sliceApplied Builtin.Slice.sliceFields
 refine wpAny_bind (wpAny_bind (wpAny_field hos hds (x:=vl) rfl (wpAny_bind (wpAny_field hos hds (x:=vu) rfl (wpAny_bind (wpAny_field hos hds (x:= .none) rfl (wpAny_pure ?_)))))))
 refine wpAny_bind (slicePart_none ?_)
 show wpAny _ _ (if ((1:Int)==0)=true then _ else _) _ _ s
 rw [if_neg (by decide)]
 refine wpAny_bind (ze8 pl (wpAny_bind (ze8 pu (wpAny_bind (wpAny_pure ?_)))))
 show wpAny _ _ (match Builtin.Slice.sliceAdjust lo hi 1 (n:Int) with | (lo,hi)=>pure (lo,(1:Int),Builtin.Slice.slicePlaces lo hi 1)) _ _ s
 rw [zi7 lo hi n]
 show wpAny _ _ (pure (((sIx n 0 lo:Nat):Int),(1:Int),Builtin.Slice.slicePlaces ((sIx n 0 lo:Nat):Int) ((sIx n n hi:Nat):Int) 1)) _ _ s
 rw [zis]
 exact wpAny_pure h
theorem zmk (xs:Array Value) (i k:Nat):((List.range k).filterMap fun (m:Nat)=>xs[((i:Int)+(m:Int)*1).toNat]?).toArray=((xs.toList.drop i).take k).toArray:=by
 have e:(fun (m:Nat)=>xs[((i:Int)+(m:Int)*1).toNat]?)=fun m=>xs[i+m]? :=by
  funext m
  have:((i:Int)+(m:Int)*1).toNat=i+m:=by omega
  rw [this]
 rw [e]
 have:=pick_run xs i k
 rw [List.filterMap_map] at this
 have e2:((fun x=>xs[x]?)∘fun x=>i+x)=fun m=>xs[i+m]? :=rfl
 rw [e2] at this
 rw [this]
theorem getItem_tuple_cut {t sl:Addr} {items:Array Value} {vl vu:Value} {lo hi:Option Int} {Q:Value→Shared→Prop} (ht:IsTup s.heap t items) (hs:s.heap.IsSliceOf sl vl vu .none) (pl:IsPart vl lo) (pu:IsPart vu hi)
  (hw: ¬(sIx items.size 0 lo=0∧sIx items.size items.size hi=items.size))
  (h:Q (.ref s.heap.objs.size) {s with heap:=s.heap.push {cls:= .type "tuple",data:= .seq ((items.toList.drop (sIx items.size 0 lo)).take (sIx items.size items.size hi - sIx items.size 0 lo)).toArray}})
  (hsz:items.size≤sizeLine):wpAny (model prog w) A (getItem (.ref t) (.ref sl)) Q E s:=by
 have htake:sizeOk (.seq ((items.toList.drop (sIx items.size 0 lo)).take (sIx items.size items.size hi - sIx items.size 0 lo)).toArray):=by
  show ((items.toList.drop (sIx items.size 0 lo)).take (sIx items.size items.size hi - sIx items.size 0 lo)).toArray.size≤sizeLine
  rw [List.size_toArray,List.length_take,List.length_drop,Array.length_toList]
  omega
 have hj:sIx items.size items.size hi≤items.size:=zre _ _ (Nat.le_refl _) hi
 obtain ⟨os,hos,hcs,hds⟩:=id hs
 have hTs:s.TypeIs (.ref sl) "slice" :=⟨os,hos,hcs⟩
 unfold getItem
 try with_reducible refine wpAny_holding ?_
 first | refine wpAny_bind (wpAny_pure ?_) | skip
 refine wpAny_bind (wpAny_sequenceKey ht.typeIs (by decide) ?_)
 refine wpAny_bind (wpAny_callSpecial?_slot (name:=Str.ofString "__getitem__") ht.typeIs PyProof.Rows.slot_tuple_getitem
  (wpAny_call_entry PyProof.Rows.slot_tuple_getitem ht.typeIs entry_tuple_getitem ?_ (args_tuple_getitem _ _)))
 show wpAny _ _ (Builtin.Tuple.tupleItemsOf (.ref t) >>=_) _ _ s
 refine wpAny_bind (tupleItemsOf_ ht ?_)
 refine wpAny_bind (wpAny_typeOf hTs ?_)
 rw [if_pos (by decide)]
 refine wpAny_bind (zei hs pl pu ?_)
 have hno: ¬((((sIx items.size 0 lo:Nat):Int)==0 && (1:Int)==1 && (sIx items.size items.size hi - sIx items.size 0 lo)==items.size)=true):=by
  intro q
  rw [Bool.and_eq_true,Bool.and_eq_true] at q
  have q1:((sIx items.size 0 lo:Nat):Int)=0:=eq_of_beq q.1.1
  have q2:sIx items.size items.size hi - sIx items.size 0 lo=items.size:=eq_of_beq q.2
  exact hw ⟨by omega,by omega⟩
 show wpAny _ _ (if (((sIx items.size 0 lo:Nat):Int)==0 && (1:Int)==1 && (sIx items.size items.size hi - sIx items.size 0 lo)==items.size)=true then _ else _) _ _ s
 rw [if_neg hno,zmk]
 first
  | exact wpAny_bind (m:=Builtin.Tuple.tupleExact _) (wpAny_newObj_type (wpAny_pure ⟨_,rfl,wpAny_pure h⟩) htake)
  | exact wpAny_bind (m:=Builtin.Tuple.tupleExact _) (wpAny_newObj_type (wpAny_bind (wpAny_pure (wpAny_pure ⟨_,rfl,wpAny_pure h⟩))) htake)
  | exact wpAny_bind (wpAny_bind (m:=Builtin.Tuple.tupleExact _) (wpAny_newObj_type (wpAny_pure (wpAny_pure ⟨_,rfl,wpAny_pure h⟩)) htake))
  | exact wpAny_bind (wpAny_bind (m:=Builtin.Tuple.tupleExact _) (wpAny_newObj_type (wpAny_pure ⟨_,rfl,wpAny_pure h⟩) htake))
end
end HT
namespace L2
open PySem PySem.Spec PyProof.Rows
abbrev TO:=St→Hp→(Option Int→Hp→Prop)→Prop
def PO (X:Cx) (e:Option Expr) (t:TO):Prop:=
 ∀(pins:List (Addr×Obj)) (s:Shared) (σ:St) (H:Hp) (Q:Option Int→Hp→Prop),Inv X pins σ H s→t σ H Q→
  wpAny (model X.prog X.w) X.A (evalPart e X.env) (fun u s'=> ∃o H',Inv X pins σ H' s'∧IsPart u o∧Q o H') X.xe s
def zpc:TO:=fun _ H Q=>Q none H
def ztp (t:TE):TO:=fun σ H Q=>t σ H fun x H1=> ∃i,x= .int i∧Q (some i) H1
section
variable {X:Cx} {e:Expr} {te:TE} {lo hi:Option Expr} {tl th:TO} {pos p2:Pos}
theorem zpj:PO X none zpc:=by
 intro pins s σ H Q I h
 rw [evalPart_none]
 exact wpAny_pure ⟨none,H,I,.none,h⟩
theorem zo0 (h:PE X e te):PO X (some e) (ztp te):=by
 intro pins s σ H Q I hw
 rw [evalPart_some]
 refine zk (h pins s σ H _ I hw) fun u s1 ⟨x,H1,I1,r1,q1⟩=>?_
 obtain ⟨i,rfl,q⟩:=q1
 obtain ⟨t,rfl⟩:=r1
 exact ⟨some i,H1,I1,.int i t,q⟩
def SlR (X:Cx) (r:V→Option Int→Option Int→Hp→VK→Prop):Prop:=
 ∀(pins:List (Addr×Obj)) (s:Shared) (σ:St) (H:Hp) (x:V) (v vl vu:Value) (lo hi:Option Int) (sl:Addr) (Q:VK),Inv X pins σ H s→RelV x v→s.heap.IsSliceOf sl vl vu .none→IsPart vl lo→IsPart vu hi→r x lo hi H Q→
  ∃T id,typeLookup (.type T) "__getitem__" =pure (some (.builtin id))∧s.TypeIs v T∧wpAny (model X.prog X.w) X.A (getItem v (.ref sl)) (EP X pins σ Q) X.xe s
theorem SlR.or {r r':V→Option Int→Option Int→Hp→VK→Prop} (h:SlR X r) (h':SlR X r'):SlR X (fun x lo hi H Q=>r x lo hi H Q∨r' x lo hi H Q):=by
 intro pins s σ H x v vl vu lo hi sl Q I rx hs pl pu q
 rcases q with q | q
 ·exact h pins s σ H x v vl vu lo hi sl Q I rx hs pl pu q
 ·exact h' pins s σ H x v vl vu lo hi sl Q I rx hs pl pu q
def tSl (r:V→Option Int→Option Int→Hp→VK→Prop) (te:TE) (tl th:TO):TE:=fun σ H Q=>te σ H fun x H1=>tl σ H1 fun l H2=>th σ H2 fun u H3=>r x l u H3 Q
theorem zmi {r:V→Option Int→Option Int→Hp→VK→Prop} (hr:SlR X r) (he:PE X e te) (hl:PO X lo tl) (hu:PO X hi th):PE X (.Subscript e (.Slice lo hi none p2) pos) (tSl r te tl th):=by
 intro pins s σ H Q I h
 refine Subscript_ (zk (he pins s σ H _ I h) fun v s1 ⟨x,H1,I1,r1,q1⟩=>?_)
 refine wpAny_Slice (zk (hl pins s1 σ H1 _ I1 q1) fun vl s2 ⟨l,H2,I2,pl,q2⟩=>zk (hu pins s2 σ H2 _ I2 q2) fun vu s3 ⟨u,H3,I3,pu,q3⟩=>?_)
 rw [evalPart_none]
 refine wpAny_pure ?_
 have I4:Inv X pins σ H3 {s3 with heap:=s3.heap.push {cls:= .type "slice",data:= .fields #[vl,vu,.none]}}:=I3.kept (t':=s3.toks) fun b ob q=>Heap.get?_push_of_some _ q
 obtain ⟨T,id,hT,ht,hg⟩:=hr pins {s3 with heap:=s3.heap.push {cls:= .type "slice",data:= .fields #[vl,vu,.none]}} σ H3 x v vl vu l u s3.heap.objs.size Q I4 r1 (Heap.IsSliceOf.new ..) pl pu q3
 show wpAny (model X.prog X.w) X.A (subscriptTail e (.Slice lo hi none p2) v (.ref s3.heap.objs.size)) (EP X pins σ Q) X.xe {s3 with heap:=s3.heap.push {cls:= .type "slice",data:= .fields #[vl,vu,.none]}}
 exact tail_any (ops:=[.ref s3.heap.objs.size,v]) ht hT hg (by with_unfolding_all rfl)
def cutV (xs:List V) (lo hi:Option Int):List V:=(xs.drop (HT.sIx xs.length 0 lo)).take (HT.sIx xs.length xs.length hi - HT.sIx xs.length 0 lo)
theorem zes (xs:List V) (lo hi:Option Int):(cutV xs lo hi).length≤xs.length:=by
 unfold cutV
 rw [List.length_take,List.length_drop]
 omega
def rSlT (K:PySem.W.Frag):V→Option Int→Option Int→Hp→VK→Prop:=fun x lo hi H Q=> ∃a xs,x= .ref a∧SqT K H a xs∧
 ¬(HT.sIx xs.length 0 lo=0∧HT.sIx xs.length xs.length hi=xs.length)∧∀p,H p=none→Q (.ref p) (zi H p (.tup (cutV xs lo hi)))
theorem sl_tup:SlR X (rSlT X.K):=by
 intro pins s σ H x v vl vu lo hi sl Q I rx hs pl pu h
 obtain ⟨a,xs,rfl,hx,hw,q⟩:=h
 cases rx
 obtain ⟨its,r,ht,hz⟩:=I.tuple hx
 have hlen:its.toArray.size=xs.length:=by rw [List.size_toArray];exact r.length.symm
 refine ⟨"tuple",_,PyProof.Rows.slot_tuple_getitem.lookup,ht.typeIs,?_⟩
 refine HT.getItem_tuple_cut ht hs pl pu (by rw [hlen];exact hw) ?_ (by rw [hlen];exact hz)
 rw [hlen]
 refine ⟨.ref s.heap.objs.size,_,I.laid (t':=s.toks) (o:= .tup (cutV xs lo hi)) (fun b ob q=>Heap.get?_push_of_some _ q) (Nat.le_refl _) ?_,rfl,q _ (I.hok.fresh (Nat.le_refl _))⟩
 exact ⟨Nat.le_trans (zes xs lo hi) hz,_,(r.drop (HT.sIx xs.length 0 lo)).take (HT.sIx xs.length xs.length hi - HT.sIx xs.length 0 lo),IsTup.new _ _⟩
end
def yn (n:Nat) (i:Int):Option Nat:=if 0≤i then (if i < n then some i.toNat else none) else if -(n:Int)≤i then some (i+n).toNat else none
def atI {α:Type} (xs:List α) (i:Int):Option α:=(yn xs.length i).bind fun j=>xs[j]?
theorem zjq {n:Nat} {i:Int} {j:Nat} (h:yn n i=some j):seqIndex? i n=some j∧j < n∧ -(n:Int)≤i∧i < n:=by
 unfold yn at h
 by_cases h0:0≤i
 ·rw [if_pos h0] at h
  by_cases h1:i < n
  ·rw [if_pos h1] at h
   have e:i.toNat=j:=Option.some.inj h
   exact ⟨by rw [seqIndex_of h0 h1,e],by omega,by omega,h1⟩
  ·rw [if_neg h1] at h;cases h
 ·rw [if_neg h0] at h
  by_cases h1: -(n:Int)≤i
  ·rw [if_pos h1] at h
   have e:(i+n).toNat=j:=Option.some.inj h
   exact ⟨by rw [seqIndex_neg (by omega) h1,e],by omega,h1,by omega⟩
  ·rw [if_neg h1] at h;cases h
theorem zhv {α:Type} {xs:List α} {i:Int} {v:α} (h:atI xs i=some v): ∃j,seqIndex? i xs.length=some j∧xs[j]? =some v∧j < xs.length∧ -(xs.length:Int)≤i∧i < xs.length:=by
 unfold atI at h
 cases e:yn xs.length i with
 | none=>rw [e] at h;cases h
 | some j=>
  rw [e] at h
  obtain ⟨h1,h2,h3,h4⟩:=zjq e
  exact ⟨j,h1,h,h2,h3,h4⟩
theorem qe {α:Type} {xs:List α} {j:Nat} {v:α} (h:xs[j]? =some v):atI xs (j:Int)=some v:=by
 have hj:j < xs.length:=(List.getElem?_eq_some_iff.mp h).1
 have e:yn xs.length (j:Int)=some j:=by
  unfold yn
  rw [if_pos (by omega),if_pos (by omega)];simp
 unfold atI;rw [e];exact h
def zfn (b:Expr):Prop:=∀o i,subscripted b false o i=operate [o,i] (getItem o i)
def IxR (X:Cx) (r:R2):Prop:=
 ∀(value slice:Expr) (pins:List (Addr×Obj)) (s:Shared) (σ:St) (H:Hp) (x y:V) (v u:Value) (Q:VK),Inv X pins σ H s→RelV x v→RelV y u→r x y H Q→
  subscripted slice false v u=operate [v,u] (getItem v u)→wpAny (model X.prog X.w) X.A (subscriptTail value slice v u) (EP X pins σ Q) X.xe s
def MtR (X:Cx) (id:String) (r:V→List V→Hp→VK→Prop):Prop:=
 ∀(pins:List (Addr×Obj)) (s:Shared) (σ:St) (H:Hp) (x:V) (xs:List V) (v:Value) (us:List Value) (Q:VK),Inv X pins σ H s→RelV x v→Vals xs us→r x xs H Q→
  wpAny (model X.prog X.w) X.A (call (.builtin id) (v::us)) (EP X pins σ Q) X.xe s
section
variable {X:Cx} {a b:Expr} {ta tb:TE} {pos:Pos}
theorem IxR.or {r r':R2} (h:IxR X r) (h':IxR X r'):IxR X (fun x y H Q=>r x y H Q∨r' x y H Q):=by
 intro value slice pins s σ H x y v u Q I rx ry q hs
 rcases q with q | q
 ·exact h value slice pins s σ H x y v u Q I rx ry q hs
 ·exact h' value slice pins s σ H x y v u Q I rx ry q hs
theorem zs2 {r:R2} (hr:IxR X r) (ha:PE X a ta) (hb:PE X b tb) (hs:zfn b):PE X (.Subscript a b pos) (tOp r ta tb):=by
 intro pins s σ H Q I h
 exact Subscript_ (binT ha hb I h fun v u s2 x y H2 I2 rx ry q=>hr a b pins s2 σ H2 x y v u Q I2 rx ry q (hs _ _))
def rIxL (K:PySem.W.Frag):R2:=fun x y H Q=> ∃p xs i v,x= .ref p∧y= .int i∧SqL K H p xs∧atI xs i=some v∧Q v H
def rIxT (K:PySem.W.Frag):R2:=fun x y H Q=> ∃p xs i v,x= .ref p∧y= .int i∧SqT K H p xs∧atI xs i=some v∧Q v H
def rIxS:R2:=fun x y H Q=> ∃z i c,x= .str z∧y= .int i∧z.length≤sizeLine∧atI z.cps.toList i=some c∧Q (.str ⟨#[c]⟩) H
theorem ix_list:IxR X (rIxL X.K):=by
 intro value slice pins s σ H x y v u Q I rx ry h hs
 obtain ⟨p,xs,i,z,rfl,rfl,hq,he,q⟩:=h
 cases rx
 obtain ⟨t,rfl⟩:=ry
 obtain ⟨its,r,pl,hz⟩:=I.list hq
 obtain ⟨j,h1,h2,h3,h4,h5⟩:=zhv he
 obtain ⟨w,ew,rw'⟩:=r.get h2
 have hl:=r.length
 have hn:=zfe
 have fin:EP X pins σ Q w s:=⟨z,H,I,rw',q⟩
 by_cases h0:0≤i
 ·have hj:i.toNat=j:=by
   rw [seqIndex_of h0 h5] at h1
   exact Option.some.inj h1
  exact item_listR pl.isList h0 (by omega) (by rw [hj];simpa using ew) fin hs
 ·have hj:(i+(its.toArray.size:Int)).toNat=j:=by
   rw [seqIndex_neg (by omega) h4] at h1
   rw [List.size_toArray,←hl]
   exact Option.some.inj h1
  exact subscriptTail_builtinR (x:=w) pl.isList.typeIs slot_list_getitem.lookup
   (wpAny_getItem_list_neg (Q:=fun r s'=>r=w∧EP X pins σ Q r s') pl.isList (by omega) (by rw [List.size_toArray] <;> omega) (by omega) (by rw [hj];simpa using ew) ⟨rfl,fin⟩) hs
theorem ix_tup:IxR X (rIxT X.K):=by
 intro value slice pins s σ H x y v u Q I rx ry h hs
 obtain ⟨p,xs,i,z,rfl,rfl,hq,he,q⟩:=h
 cases rx
 obtain ⟨t,rfl⟩:=ry
 obtain ⟨its,r,pl,hz⟩:=I.tuple hq
 obtain ⟨j,h1,h2,h3,h4,h5⟩:=zhv he
 obtain ⟨w,ew,rw'⟩:=r.get h2
 have hl:=r.length
 have hn:=zfe
 have fin:EP X pins σ Q w s:=⟨z,H,I,rw',q⟩
 exact subscriptTail_builtinR (x:=w) pl.typeIs slot_tuple_getitem.lookup
  (getItem_tuple (j:=j) (Q:=fun r s'=>r=w∧EP X pins σ Q r s') pl (by omega) (by omega) (by rw [List.size_toArray,←hl];exact h1) (by simpa using ew) ⟨rfl,fin⟩) hs
theorem zry:IxR X rIxS:=by
 intro value slice pins s σ H x y v u Q I rx ry h hs
 obtain ⟨z,i,c,rfl,rfl,hz,he,q⟩:=h
 obtain ⟨t,rfl⟩:=rx
 obtain ⟨t',rfl⟩:=ry
 obtain ⟨j,h1,h2,h3,h4,h5⟩:=zhv he
 have hl:z.cps.toList.length=z.length:=by simp [Str.length]
 rw [hl] at h1 h4 h5
 have hn:=zfe
 exact tail_any (typeIs_str s z t) slot_str_getitem.lookup (getItem_str (c:=c) (by
  have e1:decide (i < -(2 ^ 63:Int))=false:=decide_eq_false (by omega)
  have e2:decide (i≥2 ^ 63)=false:=decide_eq_false (by omega)
  rw [e1,e2,Bool.or_false]) (by rw [h1];simpa using h2) ⟨.str ⟨#[c]⟩,H,I.tok _,⟨_,rfl⟩,q⟩) hs
theorem ziz (its:List Value) (n j:Nat) (u:Value):Obj.mapSeq (·.setIfInBounds j u) {cls:= .type "list",data:= .seq its.toArray n}={cls:= .type "list",data:= .seq (its.set j u).toArray n}:=by
 simp [Obj.mapSeq]
theorem Inv.lst {pins:List (Addr×Obj)} {σ:St} {H:Hp} {s:Shared} {p:Addr} {xs:List V} (I:Inv X pins σ H s) (h:H p=some (.lst xs)):
  ∃(its:List Value) (n:Nat),Vals xs its∧s.heap.get? p=some {cls:= .type "list",data:= .seq its.toArray n}∧xs.length≤sizeLine:=by
 obtain ⟨z,its,n,r,e⟩:=I.hok p _ h
 exact ⟨its,n,r,e,z⟩
theorem Inv.lstUpd {pins:List (Addr×Obj)} {σ:St} {H:Hp} {s:Shared} {p:Addr} {xs ys:List V} {its its':List Value} {n n':Nat} {f:Obj→Obj} (I:Inv X pins σ H s) (h:H p=some (.lst xs))
  (ho:s.heap.get? p=some {cls:= .type "list",data:= .seq its.toArray n}) (hf:f {cls:= .type "list",data:= .seq its.toArray n}={cls:= .type "list",data:= .seq its'.toArray n'}) (r:Vals ys its') (hz:ys.length≤sizeLine) (t:Nat):
  Inv X pins σ (zi H p (.lst ys)) {s with heap:=s.heap.update p f,toks:=t}:=by
 have e:(s.heap.update p f).get? p=some {cls:= .type "list",data:= .seq its'.toArray n'}:=by
  rw [Heap.get?_update_self f ho (by rw [hf] <;> rfl),hf]
 refine I.write (x:=p) (e:=p) (by rw [h];trivial) (.inl rfl) (fun b u hb q=>(Heap.get?_update_other _ _ (Ne.symm hb)).trans q) ⟨_,e⟩ ?_
 exact ⟨hz,its',n',r,e⟩
def zpb:V→V→V→Hp→(Hp→Prop)→Prop:=fun o i v H Q=> ∃p xs k j,o= .ref p∧i= .int k∧H p=some (.lst xs)∧yn xs.length k=some j∧Q (zi H p (.lst (xs.set j v)))
theorem zfw:PSet X zpb:=by
 intro pins s σ H o i v ov iv u Q I ro ri rv h
 obtain ⟨p,xs,k,j,rfl,rfl,hp,hj,q⟩:=h
 cases ro
 obtain ⟨t,rfl⟩:=ri
 obtain ⟨its,n,r,ho,hz⟩:=I.lst hp
 obtain ⟨h1,h2,h3,h4⟩:=zjq hj
 have hl:=r.length
 have hn:=zfe
 have I':Inv X pins σ (zi H p (.lst (xs.set j v))) {s with heap:=s.heap.update p (Obj.mapSeq (·.setIfInBounds j u))}:=
  I.lstUpd hp ho (ziz its n j u) (r.set rv j) (by rw [List.length_set];exact hz) s.toks
 by_cases h0:0≤k
 ·have hk:k.toNat=j:=by
   rw [seqIndex_of h0 h4] at h1
   exact Option.some.inj h1
  exact PySem.W.ki_setAt ho h0 (by omega) (by rw [List.size_toArray,←hl];exact h4) (by rw [hk];exact ⟨_,I',q⟩)
 ·have hk:(k+(its.toArray.size:Int)).toNat=j:=by
   rw [seqIndex_neg (by omega) h3] at h1
   rw [List.size_toArray,←hl]
   exact Option.some.inj h1
  exact PySem.W.ki_setBack ho (by omega) (by rw [List.size_toArray,←hl];exact h3) (by omega) (by rw [hk];exact ⟨_,I',q⟩)
theorem zhd (lo hi:Option Int) (n:Nat):(sliceBounds lo hi none n).1=((HT.sIx n 0 lo:Nat):Int)∧(sliceBounds lo hi none n).2.1=((HT.sIx n n hi:Nat):Int)∧(sliceBounds lo hi none n).2.2=1:=by
 refine ⟨?_,?_,rfl⟩
 ·cases lo with
  | none=>simp [sliceBounds,HT.sIx]
  | some i=>
   simp only [sliceBounds,HT.sIx,Option.getD_none,show (1:Int) > 0 by decide,if_true]
   by_cases h:i < 0
   ·simp only [h,if_true] <;> omega
   ·simp only [h,if_false] <;> omega
 ·cases hi with
  | none=>simp [sliceBounds,HT.sIx]
  | some i=>
   simp only [sliceBounds,HT.sIx,Option.getD_none,show (1:Int) > 0 by decide,if_true]
   by_cases h:i < 0
   ·simp only [h,if_true] <;> omega
   ·simp only [h,if_false] <;> omega
theorem zf6 (its:List Value) (lo hi:Option Int):slicePick its.toArray lo hi none=((its.drop (HT.sIx its.length 0 lo)).take (HT.sIx its.length its.length hi - HT.sIx its.length 0 lo)).toArray:=by
 obtain ⟨h1,h2,h3⟩:=zhd lo hi its.toArray.size
 unfold slicePick
 rw [h1,h2,h3]
 simp only [sliceRange_one,pick_run,List.size_toArray] <;> rfl
def rSlL (K:PySem.W.Frag):V→Option Int→Option Int→Hp→VK→Prop:=fun x lo hi H Q=> ∃a xs,x= .ref a∧SqL K H a xs∧∀p,H p=none→Q (.ref p) (zi H p (.lst (cutV xs lo hi)))
theorem sl_list:SlR X (rSlL X.K):=by
 intro pins s σ H x v vl vu lo hi sl Q I rx hs pl pu h
 obtain ⟨a,xs,rfl,hx,q⟩:=h
 cases rx
 obtain ⟨its,r,ht,hz⟩:=I.list hx
 have hlen:=r.length
 refine ⟨"list",_,slot_list_getitem.lookup,ht.isList.typeIs,?_⟩
 refine wpAny_getItem_list_slice ht.isList hs pl pu .none (by simp) ?_ (by rw [List.size_toArray] <;> omega)
 rw [zf6,←hlen]
 refine ⟨.ref s.heap.objs.size,_,I.laid (t':=s.toks) (o:= .lst (cutV xs lo hi)) (fun b ob q=>Heap.get?_push_of_some _ q) (Nat.le_refl _) ?_,rfl,q _ (I.hok.fresh (Nat.le_refl _))⟩
 exact ⟨Nat.le_trans (zes xs lo hi) hz,_,0,(r.drop (HT.sIx xs.length 0 lo)).take (HT.sIx xs.length xs.length hi - HT.sIx xs.length 0 lo),Heap.get?_push_size _ rfl⟩
def zf3:V→Bool
 | .non=>true
 | .bl _=>true
 | .int _=>true
 | .str _=>true
 | _=>false
def eqV:V→V→Bool
 | .non,.non=>true
 | .bl a,.bl b=>a==b
 | .bl a,.int b=>(if a then 1 else 0)==b
 | .int a,.bl b=>a==(if b then 1 else 0)
 | .int a,.int b=>a==b
 | .str a,.str b=>a==b
 | _,_=>false
theorem znr {A:Around} {s:Shared} {y x:V} {u v:Value} (ry:RelV y u) (rx:RelV x v) (fy:zf3 y=true) (fx:zf3 x=true):SeqAt.EqAt A s u v (eqV y x):=by
 cases y with
 | non=>
  cases ry
  cases x with
  | non=>cases rx;exact SeqAt.EqAt.same _
  | bl b=>cases rx;exact SeqAt.EqAt.none_bool b
  | int b=>obtain ⟨t,rfl⟩:=rx;exact SeqAt.EqAt.none_int b t
  | str b=>obtain ⟨t,rfl⟩:=rx;exact SeqAt.EqAt.none_str b t
  | _=>exact absurd (show false=true from fx) Bool.false_ne_true
 | bl a=>
  cases ry
  cases x with
  | non=>cases rx;exact SeqAt.EqAt.bool_none a
  | bl b=>cases rx;exact SeqAt.EqAt.bool_bool a b
  | int b=>obtain ⟨t,rfl⟩:=rx;exact SeqAt.EqAt.bool_int a b t
  | str b=>obtain ⟨t,rfl⟩:=rx;exact SeqAt.EqAt.bool_str a b t
  | _=>exact absurd (show false=true from fx) Bool.false_ne_true
 | int a=>
  obtain ⟨t',rfl⟩:=ry
  cases x with
  | non=>cases rx;exact SeqAt.EqAt.int_none a t'
  | bl b=>cases rx;exact SeqAt.EqAt.int_bool a t' b
  | int b=>obtain ⟨t,rfl⟩:=rx;exact SeqAt.EqAt.int_int a t' b t
  | str b=>obtain ⟨t,rfl⟩:=rx;exact SeqAt.EqAt.int_str a t' b t
  | _=>exact absurd (show false=true from fx) Bool.false_ne_true
 | str a=>
  obtain ⟨t',rfl⟩:=ry
  cases x with
  | non=>cases rx;exact SeqAt.EqAt.str_none a t'
  | bl b=>cases rx;exact SeqAt.EqAt.str_bool a t' b
  | int b=>obtain ⟨t,rfl⟩:=rx;exact SeqAt.EqAt.str_int a t' b t
  | str b=>obtain ⟨t,rfl⟩:=rx;exact SeqAt.EqAt.str_str a t' b t
  | _=>exact absurd (show false=true from fx) Bool.false_ne_true
 | _=>exact absurd (show false=true from fy) Bool.false_ne_true
theorem zgy:yF X (.type "list") (fun xs H Q=> ∃p ys,xs=[.ref p]∧(SqL X.K H p ys∨SqT X.K H p ys)∧∀l,H l=none→Q (.ref l) (zi H l (.lst ys))):=by
 intro pins s σ H xs us Q I r h
 obtain ⟨p,ys,rfl,hq,q⟩:=h
 obtain ⟨u,rfl,rx⟩:=zmf r
 cases rx
 have fin: ∀(its:List Value),Vals ys its→ys.length≤sizeLine→∀(h':Heap) (c':Nat),(∀b o',s.heap.get? b=some o'→h'.get? b=some o')→
   h'.get? s.heap.objs.size=some {cls:= .type "list",dict:=none,data:= .seq its.toArray c',slots:= #[]}→EP X pins σ Q (.ref s.heap.objs.size) {s with heap:=h'}:=fun its r' hz h' c' kp e=>
  ⟨.ref s.heap.objs.size,_,I.laid (t':=s.toks) kp (Nat.le_refl _) (show ObjOk X.prog X.w _ h' _ (.lst ys) from ⟨hz,its,c',r',e⟩),rfl,q _ (I.hok.fresh (Nat.le_refl _))⟩
 rcases hq with hq | hq
 ·obtain ⟨its,r',pl,hz⟩:=I.list hq
  have hlen:=r'.length
  obtain ⟨o,ho,hc,n,hd⟩:=pl.isList
  exact call_list_seq p (.inl rfl) ho hc hd (fun h' c' kp e=>fin its r' hz h' c' kp e) (by simp only [List.size_toArray] <;> omega)
 ·obtain ⟨its,r',pl,hz⟩:=I.tuple hq
  have hlen:=r'.length
  obtain ⟨o,ho,hc,n,hd⟩:=pl
  exact call_list_seq p (.inr rfl) ho hc hd (fun h' c' kp e=>fin its r' hz h' c' kp e) (by simp only [List.size_toArray] <;> omega)
def tyV (K:PySem.W.Frag) (T:String) (x:V) (H:Hp):Prop:=match x with
 | .str _=>T="str"
 | .int _=>T="int"
 | .ref p=>(T="list" ∧∃xs,SqL K H p xs)∨(T="tuple" ∧∃o,K.lookup p=some o∧o.cls= .type "tuple" ∧o.dict=none)∨
  (T="dict" ∧((∃kvs,H p=some (.dK kvs))∨∃kvs,H p=some (.dT kvs)))∨(T="set" ∧∃S n,H p=some (.set S n))
 | _=>False
theorem zqt {pins:List (Addr×Obj)} {σ:St} {H:Hp} {s:Shared} {T:String} {x:V} {v:Value} (I:Inv X pins σ H s) (r:RelV x v) (ty:tyV X.K T x H):
  s.TypeIs v T∧∀a,v= .ref a→∃ob,s.heap.get? a=some ob∧ob.dict=none:=by
 cases x with
 | str z=>
  obtain ⟨t,rfl⟩:=r
  cases (show T="str" from ty)
  exact ⟨typeIs_str s z t,fun _ e=>nomatch e⟩
 | int i=>
  obtain ⟨t,rfl⟩:=r
  cases (show T="int" from ty)
  exact ⟨typeIs_int s i t,fun _ e=>nomatch e⟩
 | ref p=>
  cases r
  rcases ty with ⟨rfl,xs,hq⟩ | ⟨rfl,o,hk,hc,hd⟩ | ⟨rfl,hk⟩ | ⟨rfl,S,n,hk⟩
  ·obtain ⟨its,_,pl,_⟩:=I.list hq
   refine ⟨pl.isList.typeIs,fun a e=>?_⟩
   cases e
   obtain ⟨o,n,e,c,hd,_⟩:=pl
   exact ⟨o,e,hd⟩
  ·refine ⟨⟨o,I.kIn p o hk,hc⟩,fun a e=>?_⟩
   cases e
   exact ⟨o,I.kIn _ o hk,hd⟩
  ·have z: ∃o,s.heap.get? p=some o∧o.ExactDict:=by
    rcases hk with ⟨kvs,hk⟩ | ⟨kvs,hk⟩
    ·obtain ⟨_,_,_,_,o,_,_,e,ex,_⟩:=I.hok p _ hk
     exact ⟨o,e,ex⟩
    ·obtain ⟨_,_,_,_,o,_,_,e,ex,_⟩:=I.hok p _ hk
     exact ⟨o,e,ex⟩
   obtain ⟨o,e,ex⟩:=z
   refine ⟨⟨o,e,ex.1⟩,fun a e2=>?_⟩
   cases e2
   exact ⟨o,e,ex.2.1⟩
  ·obtain ⟨o,_,_,_,e,ex,_⟩:=I.hok p _ hk
   refine ⟨⟨o,e,ex.1⟩,fun a e2=>?_⟩
   cases e2
   exact ⟨o,e,ex.2.1⟩
 | _=>exact False.elim ty
def tBM (K:PySem.W.Frag) (T:String) (r:V→List V→Hp→VK→Prop) (to:TE) (t:TA):TE:=fun σ H Q=>to σ H fun x H1=>tyV K T x H1∧t σ H1 fun xs H2=>r x xs H2 Q
variable {o e:Expr} {es:List Expr} {to:TE} {t:TA} {name:Str} {apos cpos:Pos} {T id:String} {r:V→List V→Hp→VK→Prop}
theorem ztr (pa:PlainAttrs T) (slot:Slot T name id) (hty:typeOf (.builtin id)=pure (.type "method_descriptor")) (hm:MtR X id r) (ho:PE X o to) (ha:PA X (e::es) t)
  (hbase:attributeBase o name X.env (eval o X.env)=eval o X.env:=by rfl)
  (hfew:((backTo cpos (starEach (e::es) X.env)).all (fun x=> !x.1) && (backToKw cpos (keywordEach [] X.env)).all (fun x=>x.1.isSome)
   && decide ((e::es).length+([]:List Keyword).length+(if ([]:List Keyword).isEmpty then 0 else 1) < 30))=true:=by rfl)
  (hline:(apos.endLine==cpos.line)=true:=by rfl) (hs:starEach (e::es) X.env=(false,eval e X.env)::starEach es X.env:=by rfl) (hplain:(backTo cpos (starEach es X.env)).any (·.1)=false:=by rfl):
  PE X (.Call (.Attribute o name apos) (e::es) [] cpos) (tBM X.K T r to t):=by
 intro pins s σ H Q I h
 refine wpAny_Call_method_late hbase hfew hline rfl (zk (ho pins s σ H _ I h) fun v s1 ⟨x,H1,I1,r1,ty,q1⟩=>?_)
 obtain ⟨h1,h2⟩:=zqt I1 r1 ty
 refine ⟨T,id,pa,slot,hty,h1,h2,?_⟩
 have hA:=ha cpos pins s1 σ H1 _ I1 q1
 rw [hs] at hA ⊢
 refine Calls.callWith_builtin (by show (false || (backTo cpos (starEach es X.env)).any (·.1))=false;rw [hplain] <;> rfl) (Calls.evalArgs_plain ?_)
 exact zk hA fun us s2 ⟨vs,H2,I2,r2,q2⟩=>hm pins s2 σ H2 x vs v us Q I2 r1 r2 q2
end
def MtM (X:Cx) (id:String) (r:V→List V→Hp→VK→Prop):Prop:=
 ∀(pins:List (Addr×Obj)) (s:Shared) (σ:St) (H:Hp) (x:V) (xs:List V) (v:Value) (us:List Value) (Q:VK),Inv X pins σ H s→RelV x v→Vals xs us→r x xs H Q→
  wpAny (model X.prog X.w) X.A (call (.builtin id) (v::us)) (EP X pins σ Q) X.xe s
theorem Vals.one: ∀{x:V} {us:List Value},Vals [x] us→∃u,us=[u]∧RelV x u
 | _,_,.cons r .nil=>⟨_,rfl,r⟩
theorem Vals.rep {xs:List V} {us:List Value} (h:Vals xs us): ∀k:Nat,Vals (List.replicate k xs).flatten (List.replicate k us).flatten
 | 0=> .nil
 | k+1=>by
  rw [List.replicate_succ,List.replicate_succ,List.flatten_cons,List.flatten_cons]
  exact Vals.append h (Vals.rep h k)
theorem zg6 (its:List Value): ∀(k:Nat) (acc:List Value),
  List.foldl (fun x1 x2=>x1++x2) acc.toArray (List.replicate k its.toArray)=(acc++(List.replicate k its).flatten).toArray
 | 0,acc=>by simp
 | k+1,acc=>by
  have e:acc.toArray++its.toArray=(acc++its).toArray:=by simp
  have e2:(acc++its)++(List.replicate k its).flatten=acc++(List.replicate (k+1) its).flatten:=by
   rw [List.replicate_succ,List.flatten_cons,List.append_assoc]
  rw [←e2,←zg6 its k (acc++its),←e,List.replicate_succ,List.foldl_cons]
section
variable {X:Cx} {pins:List (Addr×Obj)} {σ:St} {H:Hp} {s:Shared} {l b:Addr} {xs ys zs:List V}
theorem Inv.lset {its its':List Value} {n:Nat} {f:Array Value→Array Value} {t':Nat} (I:Inv X pins σ H s) (hH:H l=some (.lst xs))
  (e:s.heap.get? l=some {cls:= .type "list",data:= .seq its.toArray n}) (hf:f its.toArray=its'.toArray) (hv:Vals ys its') (hz:ys.length≤sizeLine):
  Inv X pins σ (zi H l (.lst ys)) {s with heap:=s.heap.update l (Obj.mapSeq f),toks:=t'}:=by
 have q:=PySem.IsL.update e f
 rw [hf] at q
 refine I.write (x:=l) (e:=l) (by rw [hH];exact trivial) (.inl rfl) (fun b' u hb hu=>(Heap.get?_update_other s.heap (Obj.mapSeq f) (Ne.symm hb)).trans hu) ⟨_,q⟩ ?_
 exact ⟨hz,its',_,hv,q⟩
theorem Inv.lnew {its:List Value} {t':Nat} (I:Inv X pins σ H s) (hv:Vals ys its) (hz:ys.length≤sizeLine):
  Inv X pins σ (zi H s.heap.objs.size (.lst ys)) {s with heap:=s.heap.push {cls:= .type "list",data:= .seq its.toArray},toks:=t'}:=
 I.laid (fun _ _ q=>Heap.get?_push_of_some _ q) (Nat.le_refl _) ⟨hz,its,0,hv,Heap.get?_push_size _ rfl⟩
theorem Inv.fresh (I:Inv X pins σ H s):H s.heap.objs.size=none:=I.hok.fresh (Nat.le_refl _)
theorem Inv.lstM (I:Inv X pins σ H s) (hH:H l=some (.lst xs)):xs.length≤sizeLine∧∃(its:List Value) (n:Nat),Vals xs its∧xs.length=its.length∧s.heap.get? l=some {cls:= .type "list",data:= .seq its.toArray n}:=by
 obtain ⟨z,its,n,r,e⟩:=I.hok l _ hH
 exact ⟨z,its,n,r,r.length,e⟩
theorem zm1 {n:Nat} (h:n≤sizeLine):Builtin.List.listTooLong n=false:=by
 unfold Builtin.List.listTooLong
 exact decide_eq_false (by omega)
end
section
variable {X:Cx}
def zjn:V→List V→Hp→VK→Prop:=fun x vs H Q=> ∃l xs y,x= .ref l∧vs=[y]∧H l=some (.lst xs)∧xs.length < sizeLine∧Q .non (zi H l (.lst (xs++[y])))
theorem zcd:MtM X "list.append" zjn:=by
 intro pins s σ H x vs v us Q I rx rv h
 obtain ⟨l,xs,y,rfl,rfl,hH,hz,q⟩:=h
 cases rx
 obtain ⟨u,rfl,ru⟩:=rv.one
 obtain ⟨z,its,n,r,hl,e⟩:=I.lstM hH
 refine call_meets F.slot_list_append ⟨_,e,rfl⟩ F.entry_list_append (F.args_list_append_2 _ _) (PySem.list_append l its.toArray n u (by rw [List.size_toArray];omega)) ⟨e,?_⟩
 refine ⟨.non,_,I.lset (its':=its++[u]) hH e (by simp) (r.append (.cons ru .nil)) ?_,rfl,q⟩
 rw [List.length_append,List.length_singleton]
 omega
def rCat:R2:=fun x y H Q=> ∃l b xs zs,x= .ref l∧y= .ref b∧H l=some (.lst xs)∧H b=some (.lst zs)∧xs.length+zs.length≤sizeLine∧∀p,H p=none→Q (.ref p) (zi H p (.lst (xs++zs)))
theorem zsb:OpR X (binaryOp .Add) rCat:=by
 intro pins s σ H x y v u Q I rx ry h
 obtain ⟨l,b,xs,zs,rfl,rfl,hH,hB,hz,q⟩:=h
 cases rx
 cases ry
 obtain ⟨z,its,n,r,hl,e⟩:=I.lstM hH
 obtain ⟨z2,its2,n2,r2,hl2,e2⟩:=I.lstM hB
 refine PySem.P.add_list e e2 ?_ (by rw [List.size_toArray,List.size_toArray];omega)
 have ea:its.toArray++its2.toArray=(its++its2).toArray:=by simp
 rw [ea]
 exact ⟨.ref _,_,I.lnew (t':=s.toks) (r.append r2) (by rw [List.length_append];omega),rfl,q _ I.fresh⟩
def rRep:R2:=fun x y H Q=> ∃l k xs,x= .ref l∧y= .int k∧H l=some (.lst xs)∧ -(2 ^ 63)≤k∧k < 2 ^ 63∧xs.length*k.toNat≤sizeLine∧
 ∀p,H p=none→Q (.ref p) (zi H p (.lst (List.replicate k.toNat xs).flatten))
theorem zol {α:Type} (xs:List α) (k:Nat):(List.replicate k xs).flatten.length=k*xs.length:=by
 induction k with
 | zero=>simp
 | succ k ih=>rw [List.replicate_succ,List.flatten_cons,List.length_append,ih,Nat.succ_mul,Nat.add_comm]
theorem zsa:OpR X (binaryOp .Mult) rRep:=by
 intro pins s σ H x y v u Q I rx ry h
 obtain ⟨l,k,xs,rfl,rfl,hH,h1,h2,hz,q⟩:=h
 cases rx
 obtain ⟨t,rfl⟩:=ry
 obtain ⟨z,its,n,r,hl,e⟩:=I.lstM hH
 have hlen:its.toArray.size*k.toNat≤sizeLine:=by rw [List.size_toArray,←hl];exact hz
 have hcap: ¬its.toArray.size*k.toNat > (2 ^ 63 - 1) / 8:=by
  have:(sizeLine:Nat)≤(2 ^ 63 - 1) / 8:=by decide
  omega
 have hfit: ¬(!Builtin.List.listFitsIndex k)=true:=by
  rw [fitsIndex_both h1 h2]
  exact Bool.false_ne_true
 have hlong: ¬Builtin.List.listTooLong (its.toArray.size*k.toNat)=true:=by
  rw [zm1 hlen]
  exact Bool.false_ne_true
 have hnew:List.foldl (fun x1 x2=>x1++x2) #[] (List.replicate (if its.toArray.isEmpty=true then 0 else k.toNat) its.toArray)=(List.replicate k.toNat its).flatten.toArray:=by
  have f0: ∀m:Nat,List.foldl (fun x1 x2=>x1++x2) #[] (List.replicate m its.toArray)=(List.replicate m its).flatten.toArray:=fun m=>by
   have:=zg6 its m []
   rw [List.nil_append] at this
   exact this
  rw [f0]
  cases its with
  | nil=>simp
  | cons a r'=>rw [if_neg (by simp)]
 refine wpAny_binaryOp_repeat_ref (T:="list") (U:="int") (by decide) ⟨_,e,rfl⟩ (fun s'=>typeIs_int s' k t) noFill_list_mul F.fills_int_mul F.slot_int_rmul repeat_list F.slot_int_index.lookup
  (call_meets F.slot_int_rmul (typeIs_int s k t) F.entry_int_rmul (F.args_int_rmul_2 _ _) (int___rmul___int_list k t l its.toArray n)
   ⟨e,rfl,⟨_,e,rfl⟩,call_meets F.slot_list_mul ⟨_,e,rfl⟩ F.entry_list_mul (F.args_list_mul_2 _ _) (AutoListH.list___mul___list_int_3 l its.toArray n k t hfit hcap hlong) ⟨e,?_⟩⟩)
 rw [hnew]
 exact ⟨.ref _,_,I.lnew (t':=s.toks) (r.rep k.toNat) (by rw [zol,Nat.mul_comm];exact hz),rfl,q _ I.fresh⟩
end
section
variable {prog:Program} {w:World} {A:Around} {E:Value→Shared→Prop} {s:Shared}
set_option maxRecDepth 100000 in
end
end L2
namespace Att
open PySem PySem.W PySem.Calls PyProof.Rows
theorem zeo {P:Params} {h:Heap}: ∀(ns:List Int) (vs:List Value),WellAll P h vs (ns.map WData.int)→IntsAre vs ns:=by
 intro ns
 induction ns with
 | nil=>
  intro vs w
  rw [List.map_nil] at w
  cases w
  exact .nil
 | cons n ns ih=>
  intro vs w
  rw [List.map_cons] at w
  cases w with
  | cons a b=>
   cases a
   exact .cons _ _ (ih _ b)
theorem zlc {l:OpenLaw} {n:Nat} (hn:l.most=some n) {P:Params} {h:Heap} {args:List WData} {vals:List Value}
  (hpre:l.row.toRowW.claim.pre args=true) (hwl:WellAll P h vals args):
  ∃a vs ns,vals=[Value.ref a]∧args=[WData.list (ns.map WData.int)]∧h.get? a=some {cls:= .type "list",data:= .seq vs.toArray}∧IntsAre vs ns∧ns.length≤n:=by
 have hsh:WShape.hasAll [] args [.list .int]=true:=(pre_splitW hpre).1
 have hc:l.pre.holds [] {args:=args}=true:=(pre_splitW hpre).2
 obtain ⟨d,r,rfl,h1,h2⟩:=hasAllW_cons hsh
 obtain rfl:=hasAllW_nil h2
 obtain ⟨xs,rfl,h3⟩:=hasW_list h1
 obtain ⟨ns,rfl⟩:=items_int h3
 have hlen:ns.length≤n:=by
  unfold OpenLaw.pre at hc
  have h4:(WTm.not (.lt (.lit (.int (n:Int))) (.len (.arg 0)))).holds [] {args:=[.list (ns.map .int)]}=true:=by
   have h4:=(holds_andW hc).1
   rw [hn] at h4
   exact h4
  have h5:=condW_of h4 (w_not (w_lt w_lit (w_len_list (w_arg rfl))))
  rw [List.length_map] at h5
  refine Nat.le_of_not_lt fun q=>?_
  have q':(n:Int) < ((ns.length:Nat):Int):=by omega
  first
   | (rw [decide_eq_true q'] at h5;exact absurd h5 (by decide))
   | (simp at h5;omega)
 cases hwl with
 | cons w1 w2=>
  cases w2
  cases w1 with
  | list ho hall=>exact ⟨_,_,ns,rfl,rfl,ho,zeo ns _ hall,hlen⟩
theorem zlh (l:OpenLaw) (args:List WData):l.row.toRowW.claim.post args (.bool true) args=true:=
 postW_of (r:=l.row.toRowW) (X:=(true==true))
  (show WShape.has [] (.bool true) .bool=true by first | rfl | decide | simp [WShape.has,WShape.arms,WShape.armsAll])
  (show (WTm.eq .res (.lit (.bool true))).value [] {args:=args,res:=some (.bool true),after:=args}=some (.bool (true==true)) from w_eq_bool (w_res rfl) w_lit) rfl
theorem attach_call {l:OpenLaw} {n:Nat} {q:Program} {loose:List Str} {XP:(Str→Option Value)→Heap→Prop} {YP:World→Heap→Prop} {d:DefRec}
  (hn:l.most=some n) (hdf:d.params.defaults=[])
  (call: ∀(w:World) (s₀ s₁:Shared) (mg mb:Str→Option Value) (fa:Addr) (o:Obj) (pm cd doc:Value) (a:Addr) (vs:List Value) (ns:List Int),
   Ground q loose [] XP w s₀ mg mb s₁.heap→YP w s₁.heap→
   s₁.heap.get? fa=some o→o.data= .func (docDef d.name d.params d.body d.scope pm cd doc)→s₁.heap.CodeRec cd d.name→mg d.name=some (.ref fa)→
   s₁.heap.get? a=some {cls:= .type "list",data:= .seq vs.toArray}→IntsAre vs ns→ns.length≤n→s₁.gens= #[]→
   codeAny (model l.prog w) callerA (.call (.ref fa) ⟨[.ref a],[]⟩) (fun r s'=>r= .ok (.ret (.bool true))∧OldK s₁.heap s'.heap∧s'.os=s₁.os∧AllBare s'.gens) s₁):
  WalkO q loose XP YP l.row.toRowW d [] (fun f vs=>PySem.call f vs):=by
 intro w s₀ s₁ mg mb G Y fa o pm cd doc dV kV ho hd hcd hD hmg hg args vals as hpre hlay hrd hwl hlo
 obtain rfl:dV= .none:=Dflts.none hD hdf
 obtain rfl:kV= .none:=Dflts.noKw hD
 obtain ⟨a,vs,ns,rfl,rfl,hobj,hints,hlen⟩:=zlc hn hpre hwl
 refine enter_call (codeAny_mono (call w s₀ s₁ mg mb fa o pm cd doc a vs ns G Y ho (fd_plain hd) hcd hmg hobj hints hlen hg) fun r s' hq=>?_)
 obtain ⟨rfl,h2,h3,h4⟩:=hq
 exact ⟨.inl ⟨.bool true,.bool true,[],rfl,fun _=>rfl,.bool true,zlh l _,fun _=>⟨List.Pairwise.nil,fun _ hm=>(nomatch hm)⟩⟩,h2,h3,h4⟩
end Att
namespace L2
open PySem PySem.Spec PyProof.Rows
theorem zgs: ∀{vs:List Value} {ns:List Int},IntsAre vs ns→Vals (ns.map V.int) vs
 | _,_,.nil=> .nil
 | _,_,.cons n t h=> .cons ⟨t,rfl⟩ (zgs h)
def Only (H:Hp):Prop:=∀b,H b=none∨∃o xs,H b=some (.frz o (.lst xs))
theorem zmr {P:Program} {w:World} {K:PySem.W.Frag} {mg mb:Str→Option Value} {CX:yZ} {k:Nat} {fa a:Addr} {fd:FuncData} {x:Str} {sp:Sp} {s₁:Shared} {vs:List Value} {ns:List Int}
  (KX:K.In s₁.heap) (hns:s₁.heap.Ns mainGlobals mg) (hb:s₁.heap.Ns builtinsNs mb) (hbb: ∀x:Str,x≠"__name__" →mb x=bootBuiltins x) (hlim:s₁.heap.NoLimit) (hg:s₁.gens= #[])
  (ha:s₁.heap.get? a=some {cls:= .type "list",data:= .seq vs.toArray}) (hi:IntsAre vs ns) (hl:ns.length≤sizeLine) (hr:Room k callerA)
  (F: ∀base:Heap,K.In base→base.Ns mainGlobals mg→FnOk P w K mg base CX k fa fd [x] sp) (hbind: ∀(s:Shared) (u:Value),BindsTo s fd ⟨[u],[]⟩ [(x,u)])
  (hsp: ∀H:Hp,Only H→SqL K H a (ns.map V.int)→sp [.ref a] H (fun v _=>v= .bl true) fun _ _ _=>False)
  (hCX: ∀H e s',CX [] H s₁ (fun _ _ _=>False) e s'→False):
  codeAny (model P w) callerA (.call (.ref fa) ⟨[.ref a],[]⟩) (fun r s'=>r= .ok (.ret (.bool true))∧OldK s₁.heap s'.heap∧s'.os=s₁.os∧AllBare s'.gens) s₁:=by
 have rv:=zgs hi
 have lenV:=hi.length
 have core: ∀H:Hp,Only H→SqL K H a (ns.map V.int)→HOk P w H s₁.heap→(∀b,H b≠none→b=a)→(H a≠none→K.lookup a=none)→
   codeAny (model P w) callerA (.call (.ref fa) ⟨[.ref a],[]⟩) (fun r s'=>r= .ok (.ret (.bool true))∧OldK s₁.heap s'.heap∧s'.os=s₁.os∧AllBare s'.gens) s₁:=by
  intro H hO hS hok hA hK
  have base_of: ∀{b:Addr} {o:Obj},s₁.heap.get? b=some o→H b=none→(hidT s₁.heap H).get? b=some o:=fun e n=>zlu e n
  have noA: ∀{b:Addr} {o:Obj} {es:Array DictEntry} {ep:Nat},s₁.heap.get? b=some o→o.data= .dict es ep→H b=none:=fun {b o es ep} e d=>by
   cases q:H b with
   | none=>rfl
   | some u=>
    have e':b=a:=hA b (by rw [q];simp)
    subst e'
    rw [ha] at e;cases e
    have d':Data.seq vs.toArray _=Data.dict es ep:=d
    cases d'
  have nsK: ∀{b:Addr} {m:Str→Option Value},s₁.heap.Ns b m→(hidT s₁.heap H).Ns b m:=fun {b m} ⟨o,es,ep,e,d,r⟩=>⟨o,es,ep,base_of e (noA e d),d,r⟩
  have hKb:K.In (hidT s₁.heap H):=fun b o e=>base_of (KX b o e) (by
   cases q:H b with
   | none=>rfl
   | some u=>
    have e':b=a:=hA b (by rw [q];simp)
    subst e'
    rw [hK (by rw [q];simp)] at e;cases e)
  have hM:Mod K mg (hidT s₁.heap H):=⟨hKb,nsK hns,⟨mb,nsK hb,hbb⟩,let ⟨mc,h1,h2⟩:=hlim;⟨mc,nsK h1,h2⟩⟩
  have e0:Env0 P w K mg (hidT s₁.heap H) callerA [] s₁ H:=⟨rfl,hM,fun b o e=>zp3 e,Nat.le_of_eq (zk4 _ _),trivial,fun b hb=>absurd (show b∈([]:List Addr) from hb) (by simp),hok,.of_eq hg⟩
  refine codeAny_mono ((F _ hKb (nsK hns)).run callerA [] s₁ H ⟨[.ref a],[]⟩ [.ref a] [.ref a] _ _ hr e0 (hbind s₁ (.ref a)) (.cons rfl .nil) (hsp H hO hS)) fun r s' h=>?_
  cases r with
  | error e=>exact (hCX H e s' h).elim
  | ok fl=>
   cases fl with
   | next=>exact False.elim h
   | brk=>exact False.elim h
   | cont=>exact False.elim h
   | ret u=>
    obtain ⟨v,H',os,bare,un,hok',r',q⟩:=h
    have q':v= .bl true:=q
    subst q'
    obtain rfl:u=Value.bool true:=r'
    refine ⟨rfl,OldK.of_keep fun b o e=>?_,os,bare⟩
    cases q:H b with
    | none=>exact un.keep b o e q (by intro z;exact absurd (show b∈([]:List Addr) from z) (by simp)) (by simp)
    | some u=>
     rcases hO b with z | ⟨ob,xs,z⟩
     ·rw [q] at z;cases z
     ·have z2:=un.frzs b ob _ z
      obtain ⟨e1,_⟩:=hok b _ z
      obtain ⟨e2,_⟩:=hok' b _ z2
      rw [e] at e1;cases e1
      exact e2
 cases hk:K.lookup a with
 | some o=>
  have e:=KX a o hk
  rw [ha] at e
  cases e
  refine core (fun _=>none) (fun _=> .inl rfl) (.inr ⟨_,vs.toArray,_,hk,rfl,rfl,rfl,by rw [List.size_toArray,lenV];exact hl,by simpa using rv⟩) (fun b u z=>by have z':(none:Option HO)=some u:=z;cases z') (fun b z=>absurd rfl z) fun z=>absurd rfl z
 | none=>
  refine core (fun b=>if b=a then some (.frz {cls:= .type "list",data:= .seq vs.toArray} (.lst (ns.map V.int))) else none) (fun b=>?_) (.inl (.inr ⟨{cls:= .type "list",data:= .seq vs.toArray},if_pos rfl⟩)) (fun b u z=>?_) (fun b z=>?_) fun _=>hk
  ·by_cases hb:b=a
   ·exact .inr ⟨_,_,if_pos hb⟩
   ·exact .inl (if_neg hb)
  ·by_cases hb:b=a
   ·have z':=(if_pos hb).symm.trans z
    cases z'
    subst hb
    exact ⟨ha,by rw [List.length_map];exact hl,vs,_,rv,ha⟩
   ·have z':=(if_neg hb).symm.trans z
    cases z'
  ·by_cases hb:b=a
   ·exact hb
   ·exact absurd (if_neg hb) z
def zfq (s:Stmt) (j:Nat):Stmt:=match s with
 | .ClassDef _ _ _ body _ _ _ _ _ _ _=>body.getD j (.Pass ⟨0,0,0,0⟩)
 | _=> .Pass ⟨0,0,0,0⟩
def zem (s:Stmt):Arguments:=match s with
 | .FunctionDef _ a _ _ _ _ _ _ _ _=>a
 | _=>{posonlyargs:=[],args:=[],vararg:=none,kwonlyargs:=[],kw_defaults:=[],kwarg:=none,defaults:=[]}
def zcn (s:Stmt):List Stmt:=match s with
 | .FunctionDef _ _ b _ _ _ _ _ _ _=>b
 | _=>[]
def zx (s:Stmt):Scope:=match s with
 | .FunctionDef _ _ _ _ _ _ sc _ _ _=>sc
 | _=>{kind:= .function,names:=[],isGenerator:=false,isCoroutine:=false}
abbrev E0:XK:=fun _ _ _=>False
structure Fun (K:PySem.W.Frag) (x qual:Str) (st:Stmt) (f:Addr) (fd:FuncData):Prop where
 ex: ∃(oc:Value) (od:Option Addr) (kV doc pm:Value) (an:Option Addr) (cdv ct:Value) (osl:Array (Option Value)),
  fd=PySem.W.fnOf x qual (zem st) (zcn st) (zx st) .none kV doc pm an cdv ct∧K.lookup f=some ⟨oc,od,.func fd,osl⟩∧PySem.W.codeIn K cdv qual=true
 kp:PySem.W.keepIn K (.ref f)=true
section
variable {P:Program} {w:World} {K:PySem.W.Frag} {mg:Str→Option Value} {base:Heap}
theorem Fun.binds {x qual:Str} {st:Stmt} {f:Addr} {fd:FuncData} {ps:List Str} (F:Fun K x qual st f fd)
  (h: ∀(kV doc pm:Value) (an:Option Addr) (cdv ct:Value) (us:List Value),us.length=ps.length→bindArgs (PySem.W.fnOf x qual (zem st) (zcn st) (zx st) .none kV doc pm an cdv ct) ⟨us,[]⟩=pure (ps.zip us)):Binds K fd ps []:=by
 obtain ⟨oc,od,kV,doc,pm,an,cdv,ct,osl,rfl,lk,hcd⟩:=F.ex
 exact .all (h kV doc pm an cdv ct)
end
theorem zgh {n:Nat} (h:n≤1000):n < sizeLine:=Nat.lt_of_le_of_lt h (by decide)
section
variable {X:Cx}
theorem pv (i:Nat) {x:Str} {pos:Pos} (hN:X.N[i]? =some x:=by rfl) (hv:Vis X.env.scope x:=by first | exact Or.inl rfl | exact Or.inr (Or.inl rfl) | exact Or.inr (Or.inr rfl)) (hd:(x==("__debug__" :Str))=false:=by decide)
 (hcd:(x==("__classdict__" :Str))=false:=by decide):PE X (.Name x pos) (tVar i):=zgp hN hv hd hcd
end
end L2
set_option maxHeartbeats 0
namespace L2
open PySem PySem.Spec PyProof.Rows
def yy (X:Cx) (N:List Str) (scope:Scope) (cl:List (Str×Addr)) (C:Addr) (s:Shared) (H:Hp) (ex:List Addr):Cx where
 prog:=X.prog
 w:=X.w
 K:=X.K
 mg:=X.mg
 base:=X.base
 A:=X.A
 N:=N
 s₀:=s
 H₀:=H
 env:=compEnvC scope cl C X.env
 outer:=X.stack
 stack:=X.stack
 ex:=ex
 fn:=fun _=>false
 calm:=X.calm
 pn:=[]
 xe:=fun _ _=>False
theorem zd4 {env:Env}: ∀(names:List (Str×NameKind)) (acc:List (Str×Addr)),(∀y∈names,y.2= .free→∃c,env.cells.lookup y.1=some c)→
  ∃cl,(forIn names acc (fun x cs=>match x with | (name,kind)=>if (kind==NameKind.free)=true then (do let a ←cellOf env name;pure (ForInStep.yield ((name,a)::cs))) else pure (ForInStep.yield cs)):Sem (List (Str×Addr)))=pure cl∧
   (∀p∈cl,p∈acc∨env.cells.lookup p.1=some p.2)∧(∀y∈names,y.2= .free→∃c,(y.1,c)∈cl)∧∀p∈acc,p∈cl
 | [],acc,_=>⟨acc,by rw [List.forIn_nil],fun p hp=> .inl hp,fun _ h=>(nomatch h),fun _ h=>h⟩
 | (n,k)::r,acc,h=>by
  rw [List.forIn_cons]
  by_cases hk:k= .free
  ·subst hk
   obtain ⟨c,hc⟩:=h (n,.free) List.mem_cons_self rfl
   obtain ⟨cl,e,h1,h2,h3⟩:=zd4 r ((n,c)::acc) fun y hy=>h y (List.mem_cons_of_mem _ hy)
   have ec:cellOf env n=pure c:=by unfold cellOf;rw [hc]
   refine ⟨cl,?_,fun p hp=>?_,fun y hy hf=>?_,fun p hp=>h3 p (List.mem_cons_of_mem _ hp)⟩
   ·simp only [beq_self_eq_true,if_true,ec,pure_bind]
    exact e
   ·rcases h1 p hp with q | q
    ·rcases List.mem_cons.mp q with rfl | q
     ·exact .inr hc
     ·exact .inl q
    ·exact .inr q
   ·rcases List.mem_cons.mp hy with rfl | hy
    ·exact ⟨c,h3 _ List.mem_cons_self⟩
    ·exact h2 y hy hf
  ·obtain ⟨cl,e,h1,h2,h3⟩:=zd4 r acc fun y hy=>h y (List.mem_cons_of_mem _ hy)
   have hb:(k==NameKind.free)=false:=by simpa using hk
   refine ⟨cl,?_,h1,fun y hy hf=>?_,h3⟩
   ·simp only [hb,Bool.false_eq_true,if_false,pure_bind]
    exact e
   ·rcases List.mem_cons.mp hy with rfl | hy
    ·exact absurd hf hk
    ·exact h2 y hy hf
theorem zc7 {α:Type}: ∀{l:List (Str×α)} {x:Str} {c:α},(x,c)∈l→∃d,l.lookup x=some d
 | (y,e)::r,x,c,h=>by
  rw [List.lookup_cons]
  cases hb:x==y with
  | true=>exact ⟨e,rfl⟩
  | false=>
   rcases List.mem_cons.mp h with q | q
   ·cases q;simp at hb
   ·exact zc7 q
theorem zdu {scope:Scope} {env:Env} (h: ∀y∈scope.names,y.2= .free→∃c,env.cells.lookup y.1=some c):
  ∃cl,closureFor scope env=pure cl∧(∀x c,cl.lookup x=some c→env.cells.lookup x=some c)∧∀y∈scope.names,y.2= .free→∃c,cl.lookup y.1=some c:=by
 obtain ⟨cl,e,h1,h2,_⟩:=zd4 (env:=env) scope.names [] h
 refine ⟨cl,?_,fun x c q=>?_,fun y hy hf=>?_⟩
 ·simp only [closureFor]
  rw [e]
  rfl
 ·rcases h1 _ (PySem.mem_of_lookup q) with z | z
  ·cases z
  ·exact z
 ·obtain ⟨c,hc⟩:=h2 y hy hf
  exact zc7 hc
section
variable {prog:Program} {w:World} {A:Around} {R:Result→Shared→Prop} {s:Shared}
theorem zld {elt target iter:Expr} {ifs:List Expr} {scope:Scope} {pos:Pos} {it acc:Value} {env:Env} (I:Nat→Shared→Prop)
  (turn: ∀n s,I n s→wpAny (model prog w) A (pyNext it) (fun r s₁=>match r with
   | none=>R (.ok .next) s₁
   | some v=>wpAny (model prog w) A (letOwnedTupleGo target it v) (fun _ s₁'=>wpAny (model prog w) A (assign target env v) (fun _ s₂=>
    wpAny (model prog w) A (forIn ifs true fun c r=>if r=true then do let ok ←isTrue c env (eval c env);pure (ForInStep.yield ok) else pure (ForInStep.yield r)) (fun ok s₃=>
     if ok=true then wpAny (model prog w) A (eval elt env) (fun x s₄=>
      wpAny (model prog w) A (call (.builtin "list.append") [acc,x]) (fun _ s₅=> ∃m,m < n∧I m s₅) (fun _ _=>False) s₄) (fun _ _=>False) s₃
     else ∃m,m < n∧I m s₃) (fun _ _=>False) s₂) (fun _ _=>False) s₁') (fun _ _=>False) s₁) (fun _ _=>False) s)
  (n:Nat) (h:I n s):codeAny (model prog w) A (.compLoop (.ListComp elt [⟨target,iter,ifs,0⟩] scope pos) 0 it acc env) R s:=by
 refine codeAny_loop rfl I (fun n s hI=>?_) n h
 show wpAny _ A ((compTurn (.ListComp elt [⟨target,iter,ifs,0⟩] scope pos) 0 it acc env).onRaise (fun x=>do noteFrame x env;theTreesLotGoes x)) _ _ s
 refine wpAny_noted ?_
 rw [compTurn_list]
 refine wpAny_bind (wpAny_standAt (wpAny_bind (wpAny_mono (turn n s hI) (fun r s₁ h₁=>?_) fun _ _ f=>f.elim)))
 cases r with
 | none=>exact wpAny_pure h₁
 | some v=>
  refine wpAny_bind (wpAny_mono h₁ (fun _ s₁' h₁'=>?_) fun _ _ f=>f.elim)
  refine wpAny_bind (wpAny_mono h₁' (fun _ s₂ h₂=>wpAny_bind (wpAny_mono h₂ (fun ok s₃ h₃=>?_) fun _ _ f=>f.elim)) fun _ _ f=>f.elim)
  cases ok with
  | false=>exact wpAny_pure ⟨rfl,h₃⟩
  | true=>
   exact wpAny_bind (wpAny_bind (wpAny_mono h₃ (fun x s₄ h₄=>wpAny_bind (wpAny_mono h₄ (fun _ s₅ h₅=>wpAny_pure (wpAny_pure ⟨rfl,h₅⟩)) fun _ _ f=>f.elim)) fun _ _ f=>f.elim))
end
def cst (k:Nat) (fr:List Nat) (σ:St):St:=List.replicate k none++fr.map fun j=>(σ[j]?).join
structure CompScope (X:Cx) (loc free:List Str) (fr:List Nat) (scope:Scope):Prop where
 kind:scope.kind= .function
 cell: ∀y∈scope.names,y.2≠ .cell
 names: ∀y∈scope.names,y.2= .local→scope.names.lookup y.1=some .local
 frees: ∀y∈scope.names,y.2= .free→X.env.kindOf y.1=some .cell∨X.env.kindOf y.1=some .free
 at_: ∀(i j:Nat) (x:Str),fr[i]? =some j→free[i]? =some x→X.N[j]? =some x∧scope.names.lookup x=some .free
 len:fr.length=free.length
theorem zcg {env:Env}: ∀{names:List (Str×NameKind)} {x:Str},(∀y∈names,y.2≠ .cell)→
    ((names.map fun (n,k)=>if (k==NameKind.free && env.scope.kind== .function && env.kindOf n==some .cell) then (n,NameKind.cell) else (n,k)).lookup x=some .cell∨
     (names.map fun (n,k)=>if (k==NameKind.free && env.scope.kind== .function && env.kindOf n==some .cell) then (n,NameKind.cell) else (n,k)).lookup x=some .free)→names.lookup x=some .free
  | [],_,_,h=>by simp at h
  | (n,k)::r,x,hc,h=>by
    have ih:= @zcg env r x fun y hy=>hc y (List.mem_cons_of_mem _ hy)
    rw [List.map_cons] at h
    rw [List.lookup_cons]
    cases hx:x==n with
    | true=>
      have hk:k≠ .cell:=hc (n,k) List.mem_cons_self
      dsimp only at h ⊢
      by_cases hb:(k==NameKind.free && env.scope.kind== .function && env.kindOf n==some .cell)=true
      · have:k= .free:=by
          rw [Bool.and_eq_true,Bool.and_eq_true] at hb
          simpa using hb.1.1
        rw [this]
      · rw [if_neg hb,List.lookup_cons,hx] at h
        rcases h with h | h
        · have:k= .cell:=Option.some.inj h
          exact absurd this hk
        · exact h
    | false=>
      dsimp only at h ⊢
      refine ih ?_
      by_cases hb:(k==NameKind.free && env.scope.kind== .function && env.kindOf n==some .cell)=true
      · rw [if_pos hb,List.lookup_cons,hx] at h;exact h
      · rw [if_neg hb,List.lookup_cons,hx] at h;exact h
theorem zch {env:Env}: ∀{names:List (Str×NameKind)} {x:Str},names.lookup x=some .free→
    ((names.map fun (n,k)=>if (k==NameKind.free && env.scope.kind== .function && env.kindOf n==some .cell) then (n,NameKind.cell) else (n,k)).lookup x=some .cell∨
     (names.map fun (n,k)=>if (k==NameKind.free && env.scope.kind== .function && env.kindOf n==some .cell) then (n,NameKind.cell) else (n,k)).lookup x=some .free)
  | [],_,h=>by simp at h
  | (n,k)::r,x,h=>by
    have ih:= @zch env r x
    rw [List.map_cons]
    rw [List.lookup_cons] at h
    cases hx:x==n with
    | true=>
      rw [hx] at h
      have hk:k= .free:=Option.some.inj h
      subst hk
      dsimp only
      by_cases hb:(NameKind.free==NameKind.free && env.scope.kind== .function && env.kindOf n==some .cell)=true
      · rw [if_pos hb,List.lookup_cons,hx];exact .inl rfl
      · rw [if_neg hb,List.lookup_cons,hx];exact .inr rfl
    | false=>
      rw [hx] at h
      have:=ih h
      dsimp only
      by_cases hb:(k==NameKind.free && env.scope.kind== .function && env.kindOf n==some .cell)=true
      · rw [if_pos hb,List.lookup_cons,hx];exact this
      · rw [if_neg hb,List.lookup_cons,hx];exact this
section
variable {X:Cx} {pins:List (Addr×Obj)} {σ:St} {H:Hp} {s:Shared}
theorem zl0 {loc free:List Str} {fr:List Nat} {scope:Scope} {cl:List (Str×Addr)} {h1:Heap} {t1:Nat} {fp:List Addr} (S:CompScope X loc free fr scope) (I:Inv X pins σ H s)
  (hc1: ∀x c,cl.lookup x=some c→X.env.cells.lookup x=some c) (hc2: ∀y∈scope.names,y.2= .free→∃c,cl.lookup y.1=some c)
  (hns:h1.Ns s.heap.objs.size (fun _=>none)) (hk: ∀b o,s.heap.get? b=some o→h1.get? b=some o)
  (hfp: ∀b∈fp,FpOk X pins H b) (hfo: ∀b∈fp,∃o,s.heap.get? b=some o):
  Inv (yy X (loc++free) scope cl s.heap.objs.size s H fp) [] (cst loc.length fr σ) H {s with heap:=h1,toks:=t1}:=by
 have fpb: ∀b∈fp,b < s.heap.objs.size:=fun b hb=>let ⟨o,e⟩:=hfo b hb;Heap.lt_size e
 refine ⟨⟨I.ok.mod,S.kind,I.ok.glob,I.ok.blt,Nat.le_refl _,fun x y c e1 e2=>I.ok.inj x y c (hc1 _ _ e1) (hc1 _ _ e2),fun x hx=>?_,fun x c f=>(nomatch f),I.ok.hd,I.ok.frames,.inl rfl,fun b hb=>?_,I.bs,Nat.le_trans I.ok.bsz I.sz,fun b o e hb=>?_,fun b hb z=>?_,I.stack,I.stkFree⟩,
  rfl,I.bare,Un.kept hk,⟨_,hns,fun i x v e1 e2 e3=>?_⟩,fun x c e=>?_,I.hok.fresh (Nat.le_refl _),fun x c e=>I.freeC x c (hc1 x c e),fun p hp=>absurd (show p∈([]:List (Addr×Obj)) from hp) (by simp),I.hok.kept hk,?_⟩
 ·have q:scope.names.lookup x=some .free:=zcg S.cell hx
  exact hc2 (x,.free) (PySem.mem_of_lookup q) rfl
 ·exact ⟨Nat.ne_of_lt (fpb b hb),fun x c e=>(hfp b hb).2.2.2.2.1 x c (hc1 x c e)⟩
 ·rcases (hfp b hb).2.2.2.1 with z | z
  ·exact I.ok.noex b o e z
  ·exact absurd (Nat.lt_of_lt_of_le (Heap.lt_size e) (Nat.le_trans I.ok.bsz z)) (Nat.lt_irrefl _)
 ·rcases List.mem_cons.mp (I.stkSub b z) with e | e
  ·exact (hfp b hb).2.1 e
  ·exact (hfp b hb).2.2.1 e
 ·have e1':(loc++free)[i]? =some x:=e1
  unfold cst at e2
  by_cases hi:i < loc.length
  ·rw [List.getElem?_append_left (by simpa using hi),List.getElem?_replicate] at e2
   rw [if_pos hi] at e2
   cases e2
  ·have hi':loc.length≤i:=Nat.le_of_not_lt hi
   rw [List.getElem?_append_right (by simpa using hi'),List.length_replicate,List.getElem?_map] at e2
   rw [List.getElem?_append_right hi'] at e1'
   cases hj:fr[i - loc.length]? with
   | none=>rw [hj] at e2;cases e2
   | some j=>
    rw [hj] at e2
    have e2':(σ[j]?).join=some v:=Option.some.inj e2
    obtain ⟨n1,n2⟩:=S.at_ _ j x hj e1'
    have e4:σ[j]? =some (some v):=by
     cases q:σ[j]? with
     | none=>rw [q] at e2';cases e2'
     | some z=>rw [q] at e2';exact congrArg some e2'
    have kf:=S.frees (x,.free) (PySem.mem_of_lookup n2) rfl
    obtain ⟨m,hn,hl⟩:=I.loc
    obtain ⟨u,r,l⟩:=hl j x v n1 e4 (kf.elim (fun z=> .inr (.inl z)) fun z=> .inr (.inr z))
    refine ⟨u,r,.inr ⟨zch n2,?_⟩⟩
    obtain ⟨c,hc⟩:=hc2 (x,.free) (PySem.mem_of_lookup n2) rfl
    have hcx:=hc1 x c hc
    rcases l with ⟨hk',_⟩ | ⟨_,c',hc',hcell⟩
    ·rcases kf with z | z <;> (rw [hk'] at z;cases z)
    ·rw [hcx] at hc'
     cases hc'
     obtain ⟨o,ho,hd⟩:=hcell
     exact ⟨c,hc,o,hk _ _ ho,hd⟩
 ·obtain ⟨v,o,ho,hd⟩:=I.cell x c (hc1 x c e)
  exact ⟨v,o,hk _ _ ho,hd⟩
 ·show (cst loc.length fr σ).length=(loc++free).length
  unfold cst
  rw [List.length_append,List.length_replicate,List.length_map,List.length_append,S.len]
abbrev ztw (J:It) (g:TG) (tc:TT) (te:TE) (σ0:St) (H:Hp) (Q:VK) (D:Addr):Prop:=
 ∃W:Nat→Nat→List V→St→Hp→Prop,(∃m,W 0 m [] σ0 (zi H D (.lst [])))∧∀i m acc σ' H',W i m acc σ' H'→H' D=some (.lst acc)∧
  ((J.stop i H'∧Q (.ref D) H')∨(J.go i H'∧∃N:List V→St→Hp→Prop,(∀acc' σ3 H5,N acc' σ3 H5→∃m',m' < m∧W (i+1) m' acc' σ3 H5)∧∀x H2,J.yld i H' x H2→g x σ' H2 fun σ3 H3=>tc σ3 H3 fun b H4=>
   if b=true then te σ3 H4 fun v H5=>H5 D=some (.lst acc)∧acc.length < sizeLine∧N (acc++[v]) σ3 (zi H5 D (.lst (acc++[v])))
   else N acc σ3 H4))
def zm4 (wi:TI) (k:Nat) (fr:List Nat) (g:TG) (tc:TT) (te:TE):TE:=fun σ H Q=>wi σ H fun J H1=> ∀D,H1 D=none→ztw J g tc te (cst k fr σ) H1 Q D
def zto:TT:=fun _ H Q=>Q true H
def PTs (X:Cx) (ifs:List Expr) (t:TT):Prop:=
 ∀(pins:List (Addr×Obj)) (s:Shared) (σ:St) (H:Hp) (Q:Bool→Hp→Prop),Inv X pins σ H s→t σ H Q→
  wpAny (model X.prog X.w) X.A (forIn ifs true fun c r=>if r=true then do let ok ←isTrue c X.env (eval c X.env);pure (ForInStep.yield ok) else pure (ForInStep.yield r)) (TP X pins σ Q) X.xe s
theorem zpv:PTs X [] zto:=fun pins s σ H Q I h=>wpAny_tests_nil ⟨H,I,h⟩
structure CompEnd (X:Cx) (pins:List (Addr×Obj)) (σ:St) (Q:VK) (D C:Addr) (s6:Shared):Prop where
 inv: ∃H5,Inv X pins σ H5 s6∧H5 C=none∧Q (.ref D) H5
 ns: ∃m,s6.heap.Ns C m
 neL:C≠X.env.locals
 nfs:C∉X.fs
 new:X.s₀.heap.objs.size≤C
 cel: ∀x c,X.env.cells.lookup x=some c→c≠C
 pin: ∀p∈X.pn++pins,p.1≠C
theorem zic {elt tg iter:Expr} {ifs:List Expr} {loc free:List Str} {fr:List Nat} {scope:Scope} {pos:Pos} {wi:TI} {g:TG} {tc:TT} {te:TE} (hc:X.calm=true) (S:CompScope X loc free fr scope) (hi:PI X tg iter wi)
  (hg: ∀cl C s H ex,PG (yy X (loc++free) scope cl C s H ex) tg g) (ht: ∀cl C s H ex,PTs (yy X (loc++free) scope cl C s H ex) ifs tc) (he: ∀cl C s H ex,PE (yy X (loc++free) scope cl C s H ex) elt te)
  (I:Inv X pins σ H s) {Q:VK} (h:zm4 wi loc.length fr g tc te σ H Q) {cl:List (Str×Addr)} (hc1: ∀x c,cl.lookup x=some c→X.env.cells.lookup x=some c) (hc2: ∀y∈scope.names,y.2= .free→∃c,cl.lookup y.1=some c)
  {RR:Value→Addr→Result→Shared→Prop} (hRR: ∀D C s6,CompEnd X pins σ Q D C s6→RR (.ref D) C (.ok .next) s6):
  wpAny (model X.prog X.w) X.A (eval iter X.env) (fun x s1=>wpAny (model X.prog X.w) X.A (pyIter x) (fun it s2=>wpAny (model X.prog X.w) X.A (newList []) (fun acc s3=>
   wpAny (model X.prog X.w) X.A (newFunctionEnv scope X.env.globals cl [] X.env.qual none .none (some X.env)) (fun cenv s4=>
    codeAny (model X.prog X.w) X.A (.compStart (.ListComp elt [⟨tg,iter,ifs,0⟩] scope pos) 0 it acc {cenv with scope:=relabel scope X.env}) (RR acc cenv.locals) s4) X.xe s3) X.xe s2) X.xe s1) X.xe s:=by
 refine zk (hi pins s σ H _ I h) fun v s1 h1=>zk h1 fun itv s2 h2=>?_
 obtain ⟨it,fp,tn,J,H2,e,I2,T,st2,f2,q2⟩:=h2
 subst e
 have hD:H2 s2.heap.objs.size=none:=I2.hok.fresh (Nat.le_refl _)
 obtain ⟨W,⟨m0,w0⟩,turn⟩:=q2 s2.heap.objs.size hD
 refine wpAny_newObj_type ?_
 generalize hs3:({s2 with heap:=s2.heap.push {cls:= .type "list",dict:=none,data:= .seq ([]:List Value).toArray}}:Shared)=s3
 have I3:Inv X pins σ (zi H2 s2.heap.objs.size (.lst [])) s3:=by
  rw [←hs3]
  exact I2.lnew (its:=[]) (t':=s2.toks) .nil (Nat.zero_le _)
 have k23: ∀b o,s2.heap.get? b=some o→s3.heap.get? b=some o:=fun b o q=>by rw [←hs3];exact Heap.get?_push_of_some _ q
 have f3: ∀b∈fp,FpOk X pins (zi H2 s2.heap.objs.size (.lst [])) b:=fun b hb=>by
  obtain ⟨o,e,_⟩:=T.obj _ _ st2 b hb
  exact ⟨by rw [zv (Nat.ne_of_lt (Heap.lt_size e))];exact (f2 b hb).1,(f2 b hb).2⟩
 have o3: ∀b∈fp,∃o,s3.heap.get? b=some o:=fun b hb=>let ⟨o,e,_⟩:=T.obj _ _ st2 b hb;⟨o,k23 b o e⟩
 have st3:tn 0 s3.heap:=T.keep _ _ _ st2 fun b _ o e=>k23 b o e
 refine wpAny_newFunctionEnv S.cell (by intro y hy;simp at hy) (fun h4 hns hsb=>?_) S.kind
 try dsimp only at hns hsb ⊢
 have k34: ∀b o,s3.heap.get? b=some o→h4.get? b=some o:=fun b o q=>hsb.extBut b o (Nat.ne_of_lt (Heap.lt_size q)) (Heap.get?_push_of_some _ q)
 have I4:=zl0 (t1:=s3.toks+([]:List (Str×Value)).length) S I3 hc1 hc2 hns k34 f3 o3
 have hgC:=hg cl s3.heap.objs.size s3 (zi H2 s2.heap.objs.size (.lst [])) fp
 have htC:=ht cl s3.heap.objs.size s3 (zi H2 s2.heap.objs.size (.lst [])) fp
 have heC:=he cl s3.heap.objs.size s3 (zi H2 s2.heap.objs.size (.lst [])) fp
 have st4:tn 0 h4:=T.keep _ _ _ st3 fun b _ o e=>k34 b o e
 generalize hY:yy X (loc++free) scope cl s3.heap.objs.size s3 (zi H2 s2.heap.objs.size (.lst [])) fp=Y at I4 hgC htC heC
 have fY: ∀{H':Hp},(∀b∈fp,H' b=none)→∀b∈fp,FpOk Y [] H' b:=fun hn b hb=>by
  subst hY
  refine ⟨hn b hb,?_,fun z=>?_,.inl hb,fun x c e=>(f3 b hb).2.2.2.2.1 x c (hc1 x c e),fun p hp=>absurd (show p∈([]:List (Addr×Obj)) from hp) (by simp)⟩
  ·obtain ⟨o,e⟩:=o3 b hb
   exact Nat.ne_of_lt (Heap.lt_size e)
  ·rcases List.mem_cons.mp (I3.stkSub b z) with e | e
   ·exact (f3 b hb).2.1 e
   ·exact (f3 b hb).2.2.1 e
 have hYp:Y.prog=X.prog:=by rw [←hY];rfl
 have hYw:Y.w=X.w:=by rw [←hY];rfl
 have hYK:Y.K=X.K:=by rw [←hY];rfl
 have hYA:Y.A=X.A:=by rw [←hY];rfl
 have hYe:Y.env=compEnvC scope cl s3.heap.objs.size X.env:=by rw [←hY];rfl
 have hYx:Y.xe=fun _ _=>False:=by rw [←hY];rfl
 have hYc:Y.calm=true:=by rw [←hY];exact hc
 have loop:codeAny (model X.prog X.w) X.A (.compLoop (.ListComp elt [⟨tg,iter,ifs,0⟩] scope pos) 0 (.ref it) (.ref s2.heap.objs.size) (compEnvC scope cl s3.heap.objs.size X.env))
   (RR (.ref s2.heap.objs.size) s3.heap.objs.size) {s3 with heap:=h4,toks:=s3.toks+([]:List (Str×Value)).length}:=by
  refine zld (fun n s'=> ∃i acc σ' H',Inv Y [] σ' H' s'∧tn i s'.heap∧(∀b∈fp,H' b=none)∧W i n acc σ' H') ?_ m0 ⟨0,[],_,_,I4,st4,fun b hb=>(f3 b hb).1,w0⟩
  rintro n s5 ⟨i,acc,σ5,H5,I5,st5,fr5,w5⟩
  obtain ⟨hacc,turn5⟩:=turn i n acc σ5 H5 w5
  rcases turn5 with ⟨stop,qn⟩ | ⟨go,N,hN,step⟩
  ·have d:=T.done Y hYp hYw hYK hYc i [] s5 σ5 H5 (fun _ _=>False) I5 (fY fr5) st5 stop
   rw [hYA] at d
   refine zk d fun r s6 ⟨hr,I6⟩=>?_
   subst hr
   obtain ⟨m,hn,_⟩:=id I6.loc
   rw [hYe] at hn
   have fC:H5 s3.heap.objs.size=none:=by
    have:=I6.free
    rw [hYe] at this
    exact this
   have hok6:HOk X.prog X.w H5 s6.heap:=by
    have:=I6.hok
    rw [hYp,hYw] at this
    exact this
   have un6:Un (zM X.stack) fp (zi H2 s2.heap.objs.size (.lst [])) H5 s3.heap s6.heap:=by
    have:=I6.base
    subst hY
    exact this
   have os6:s6.os=s3.os:=by
    have:=I6.os
    subst hY
    exact this
   have IX:Inv X pins σ H5 s6:=I3.call' (ch:=fp) os6 un6 hok6 I6.bare fun b hb=>⟨(f3 b hb).2.2.2.1,(f3 b hb).2.1,(f3 b hb).2.2.2.2.1,(f3 b hb).2.2.2.2.2⟩
   refine hRR _ _ s6 ⟨⟨H5,IX,fC,qn⟩,⟨m,hn⟩,Nat.ne_of_gt I3.lt,I3.nofs (Nat.le_refl _),I3.sz,fun x c e z=>?_,fun p hp z=>?_⟩
   ·obtain ⟨v,q⟩:=I3.cell x c e
    exact absurd q.lt (by rw [z];exact Nat.lt_irrefl _)
   ·exact absurd (Heap.lt_size (I3.pin p hp).1) (by rw [z];exact Nat.lt_irrefl _)
  ·have d:=T.item Y hYp hYw hYK hYc i [] s5 σ5 H5 (fun _ _=>False) I5 (fY fr5) st5 go
   rw [hYA] at d
   refine zk d fun r s6 ⟨u,hr,h6⟩=>?_
   subst hr
   refine zk h6 fun _ s7 ⟨x,H7,I7,r7,y7,st7,fr7⟩=>?_
   have I7':=I7.pinned (fY fr7) (T.obj _ _ st7)
   have g7:=hgC _ s7 σ5 H7 x u _ I7' r7 (step x H7 y7)
   rw [hYp,hYw,hYA,hYe,hYx] at g7
   refine zk g7 fun _ s8 ⟨σ8,H8,I8,q8⟩=>?_
   have t8:=htC _ s8 σ8 H8 _ I8 q8
   rw [hYp,hYw,hYA,hYe,hYx] at t8
   have back: ∀{σ9:St} {H9:Hp} {s9:Shared} {acc':List V},Inv Y ([]++zg2 fp s7.heap) σ9 H9 s9→N acc' σ9 H9→∃m,m < n∧∃i acc σ' H',Inv Y [] σ' H' s9∧tn i s9.heap∧(∀b∈fp,H' b=none)∧W i m acc σ' H':=fun {σ9 H9 s9 acc'} I9 w9=>by
    obtain ⟨m',hm,w9⟩:=hN _ _ _ w9
    refine ⟨m',hm,i+1,acc',σ9,H9,I9.unpinned,T.keep _ _ _ st7 fun b hb o e=>(I9.pin (b,o) (List.mem_append_right _ (List.mem_append_right _ (zda hb e)))).1,fun b hb=>?_,w9⟩
    obtain ⟨o,e,d⟩:=T.obj _ _ st7 b hb
    exact (I9.pin (b,o) (List.mem_append_right _ (List.mem_append_right _ (zda hb e)))).2.1
   refine zk t8 fun ok s9 ⟨H9,I9,q9⟩=>?_
   cases ok with
   | false=>
    rw [if_neg (by simp)] at q9 ⊢
    exact back I9 q9
   | true=>
    rw [if_pos rfl] at q9 ⊢
    have e9:=heC _ s9 σ8 H9 _ I9 q9
    rw [hYp,hYw,hYA,hYe,hYx] at e9
    refine zk e9 fun y s10 ⟨z,H10,I10,r10,hacc10,hlen,w10⟩=>?_
    have a10:=zcd (X:=Y) _ s10 σ8 H10 (.ref s2.heap.objs.size) [z] (.ref s2.heap.objs.size) [y] (fun _ H'=>N (acc++[z]) σ8 H') I10 rfl (.cons r10 .nil) ⟨_,_,z,rfl,rfl,hacc10,hlen,w10⟩
    rw [hYp,hYw,hYA,hYx] at a10
    exact zk a10 fun _ s11 ⟨_,H11,I11,_,w11⟩=>back I11 w11
 exact codeAny_compStart_list loop (T.self X.A 0 _ _ _ st4 loop)
theorem zpw {elt tg iter:Expr} {ifs:List Expr} {loc free:List Str} {fr:List Nat} {scope:Scope} {pos:Pos} {wi:TI} {g:TG} {tc:TT} {te:TE} (hc:X.calm=true) (S:CompScope X loc free fr scope) (hi:PI X tg iter wi)
  (hg: ∀cl C s H ex,PG (yy X (loc++free) scope cl C s H ex) tg g) (ht: ∀cl C s H ex,PTs (yy X (loc++free) scope cl C s H ex) ifs tc) (he: ∀cl C s H ex,PE (yy X (loc++free) scope cl C s H ex) elt te)
  (hs: ∀x,foldedSetIterable iter X.env x=pure x:=by intro _;rfl):PE X (.ListComp elt [⟨tg,iter,ifs,0⟩] scope pos) (zm4 wi loc.length fr g tc te):=by
 intro pins s σ H Q I h
 rw [eval_ListComp]
 obtain ⟨cl,hcl,hc1,hc2⟩:=zdu (scope:=scope) (env:=X.env) fun y hy hf=>I.ok.has y.1 (S.frees y hy hf)
 refine wpAny_comprehension_free (use:=none) rfl hs hcl S.kind S.names ?_
 refine zic (RR:=fun acc C=>compPost (model X.prog X.w) X.A X.xe none (EP X pins σ Q) acc C) hc S hi hg ht he I h hc1 hc2 fun D C s6 ce=>?_
 obtain ⟨H5,IX,fC,q⟩:=ce.inv
 obtain ⟨m,hn⟩:=ce.ns
 exact ⟨m,hn,fun h7 hs7=>⟨.ref D,H5,IX.turned (t':=s6.toks) (fun b o hb e=>hs7.extBut b o hb e) fC ce.neL (.inr ce.new) ce.cel ce.pin,rfl,q⟩⟩
theorem zjg {i:Nat} {y:Str} {py:Pos} {spos:Pos} {elt tg iter:Expr} {ifs:List Expr} {loc free:List Str} {fr:List Nat} {scope:Scope} {pos:Pos} {wi:TI} {g:TG} {tc:TT} {te:TE} (hN:X.N.Nodup) (hi':X.N[i]? =some y) (hx:X.env.scope.names.lookup y=some .local)
  (hc:X.calm=true) (S:CompScope X loc free fr scope) (hi:PI X tg iter wi)
  (hg: ∀cl C s H ex,PG (yy X (loc++free) scope cl C s H ex) tg g) (ht: ∀cl C s H ex,PTs (yy X (loc++free) scope cl C s H ex) ifs tc) (he: ∀cl C s H ex,PE (yy X (loc++free) scope cl C s H ex) elt te)
  (hs: ∀x,foldedSetIterable iter X.env x=pure x:=by intro _;rfl)
  (hsw:swapsWith (.ListComp elt [⟨tg,iter,ifs,0⟩] scope pos) (some (.Name y py)) spos.line X.env=pure true:=by rfl):
  PS X (.Assign [.Name y py] (.ListComp elt [⟨tg,iter,ifs,0⟩] scope pos) spos) (tAsg (zm4 wi loc.length fr g tc te) (zjc i)):=by
 intro pins s σ H D I h
 obtain ⟨cl,hcl,hc1,hc2⟩:=zdu (scope:=scope) (env:=X.env) fun y hy hf=>I.ok.has y.1 (S.frees y hy hf)
 rw [exec_Assign_Name_used _ _ _ _ hsw]
 refine wpAny_bind (wpAny_standAt (wpAny_bind ?_))
 show wpAny _ X.A (do let _ ←comprehension (.ListComp elt [⟨tg,iter,ifs,0⟩] scope pos) scope X.env _ (newList []) false (eval iter X.env) (some (assign (.Name y py) X.env))) _ _ s
 refine wpAny_bind (wpAny_mono (wpAny_comprehension_free (use:=some (assign (.Name y py) X.env)) (Q:=fun _ s'=>SP X pins D .next s') rfl hs hcl S.kind S.names ?_) (fun _ s' hq=>wpAny_pure (wpAny_pure hq)) fun _ _ e=>e)
 refine zic (RR:=fun acc C=>compPost (model X.prog X.w) X.A X.xe (some (assign (.Name y py) X.env)) (fun _ s'=>SP X pins D .next s') acc C) hc S hi hg ht he I h hc1 hc2 fun L C s6 ce=>?_
 obtain ⟨H5,IX,fC,q⟩:=ce.inv
 obtain ⟨m,oC,es,ep,ho,hd,hk⟩:=ce.ns
 show wpAny _ X.A (assign (.Name y py) X.env (.ref L)) _ _ s6
 have IP:Inv X (pins++[(C,oC)]) σ H5 s6:=IX.pins_of fun p hp=>(List.mem_append.mp hp).elim (fun z=>IX.pin p (List.mem_append_right _ z)) fun z=>by
  rw [List.mem_singleton.mp z]
  exact ⟨ho,fC,ce.neL,ce.nfs,fun v e=>by rw [hd] at e;cases e⟩
 refine wpAny_assign_Name (zej IP hN hi' (.inl hx) (v:= .ref L) rfl (fun s' I'=>?_) (.inr hx))
 have pc:=I'.pin (C,oC) (List.mem_append_right _ (List.mem_append_right _ List.mem_cons_self))
 refine ⟨m,⟨oC,es,ep,pc.1,hd,hk⟩,fun h7 hs7=>?_⟩
 exact ⟨_,H5,I'.unpinned.turned (t':=s'.toks) (fun b o hb e=>hs7.extBut b o hb e) fC ce.neL (.inr ce.new) ce.cel ce.pin,q⟩
end
section
variable {X:Cx}
theorem zhl:yF X (.builtin "isinstance") (fun xs H Q=> ∃x T t b,xs=[x,.ty T]∧TyOf X.K H x t∧PySem.W.kitOne X.K t (.type T)=some b∧Q (.bl b) H):=by
 intro pins s σ H xs us Q I r h
 obtain ⟨x,T,t,b,rfl,ty,e,q⟩:=h
 obtain ⟨u,v,rfl,rx,ry⟩:=zl7 r
 cases ry
 exact zkm I rx ty e fun tk=>⟨.bl b,H,I.tok tk,rfl,q⟩
theorem zna {A:Around} (h:A.handled=none):A.in1.handled=none:=h
theorem zmo (hc:X.calm=true):yF X (.builtin "all") (fun xs H Q=> ∃(p:Addr) (bs:List Bool),xs=[.ref p]∧SqL X.K H p (bs.map V.bl)∧Q (.bl (bs.all id)) H):=by
 intro pins s σ H xs us Q I r h
 obtain ⟨p,bs,rfl,hq,q⟩:=h
 obtain ⟨u,rfl,rx⟩:=zmf r
 cases rx
 obtain ⟨its,rv,pl,hz⟩:=I.list hq
 refine call_all_walk (wpAny_pyIter_list pl.isList ?_)
 have hp:p < s.heap.objs.size:=by obtain ⟨o,n,e,_⟩:=pl;exact Heap.lt_size e
 have hlen:its.length=bs.length:=by rw [←rv.length,List.length_map]
 refine ⟨s.heap.objs.size,_,_,_,_,_,fun i=>bs.getD i true,rfl,Walks.list (zna (I.ok.hd hc)) _ p (Nat.ne_of_lt hp) its.toArray,⟨⟨_,Heap.get?_push_size _ rfl,rfl,rfl⟩,pl.isList.push _⟩,?_,fun h' tk k=>?_⟩
 ·intro i v s' Q' E' hv hQ
  have hv':its[i]? =some v:=by simpa using hv
  have hi:i < bs.length:=by rw [←hlen];exact (List.getElem?_eq_some_iff.mp hv').1
  obtain ⟨u,hu,ru⟩:=rv.get (i:=i) (x:= .bl bs[i]) (by simp [hi])
  rw [hv'] at hu;cases hu
  cases ru
  refine wpAny_truthy_bool ?_
  have e:bs.getD i true=bs[i]:=by simp [hi]
  dsimp only at hQ
  rw [e] at hQ
  exact hQ
 ·refine ⟨.bl _,H,I.kept (t':=tk) (fun b o e=>k b o (by simpa using Nat.ne_of_lt (Heap.lt_size e)) (Heap.get?_push_of_some _ e)),?_,q⟩
  show Value.bool _=Value.bool _
  congr 1
  rw [List.size_toArray,hlen]
  have: ∀(bs:List Bool) (n:Nat),n=bs.length→(List.range n).all (fun i=>bs.getD i true)=bs.all id:=by
   intro bs n hn
   rw [Bool.eq_iff_iff,List.all_eq_true,List.all_eq_true]
   constructor
   ·intro h x hx
    obtain ⟨i,hi,rfl⟩:=List.mem_iff_getElem.mp hx
    have:=h i (List.mem_range.mpr (by omega))
    simpa [hi] using this
   ·intro h i hi
    have hi':i < bs.length:=by have:=List.mem_range.mp hi;omega
    have:=h bs[i] (List.getElem_mem hi')
    simpa [hi'] using this
  exact this bs _ rfl
end
end L2
namespace L2
open PySem PySem.W PySem.Spec PyProof.Rows
def znx (sc:Scope) (N loc free:List Str) (fr:List Nat) (scope:Scope):Bool:=
 decide (scope.kind= .function) && scope.names.all (fun y=>decide (y.2≠ .cell)) && scope.names.all (fun y=>decide (y.2≠ .local) || decide (scope.names.lookup y.1=some .local)) &&
 scope.names.all (fun y=>decide (y.2≠ .free) || (decide (sc.names.lookup y.1=some .cell) || decide (sc.names.lookup y.1=some .free))) && decide (fr.length=free.length) &&
 (List.range fr.length).all fun i=>match fr[i]?,free[i]? with
  | some j,some x=>decide (N[j]? =some x) && decide (scope.names.lookup x=some .free)
  | _,_=>true
theorem zec {X:Cx} {sc:Scope} {N loc free:List Str} {fr:List Nat} {scope:Scope} (e1:X.env.scope=sc) (e2:X.N=N) (h:znx sc N loc free fr scope=true):CompScope X loc free fr scope:=by
 unfold znx at h
 simp only [Bool.and_eq_true,List.all_eq_true,Bool.or_eq_true,decide_eq_true_eq] at h
 obtain ⟨⟨⟨⟨⟨h1,h2⟩,h3⟩,h4⟩,h5⟩,h6⟩:=h
 refine ⟨h1,fun y hy=>h2 y hy,fun y hy hl=>(h3 y hy).elim (fun z=>absurd hl z) id,fun y hy hf=>?_,fun i j x a b=>?_,h5⟩
 ·show X.env.scope.names.lookup y.1=some .cell∨X.env.scope.names.lookup y.1=some .free
  rw [e1]
  exact (h4 y hy).elim (fun z=>absurd hf z) id
 ·have hi:i < fr.length:=(List.getElem?_eq_some_iff.mp a).1
  have:=h6 i (List.mem_range.mpr hi)
  rw [a,b] at this
  simp only [Bool.and_eq_true,decide_eq_true_eq] at this
  rw [e2]
  exact this
theorem pgc {X:Cx} {x:Str} {pos:Pos} (i:Nat) (N:List Str) (nd:N.Nodup) (eN:X.N=N) (hi:N[i]? =some x) (hx:qh X.env.scope x) (hl:X.env.scope.names.lookup x=some .local):PG X (.Name x pos) (zjc i):=
 zjo (eN ▸ nd) (by rw [eN];exact hi) hx (.inr hl)
structure Dfn (K:PySem.W.Frag) (mg:Str→Option Value) (x:Str) (st:Stmt) (ps:List Str) (f:Addr) (fd:FuncData):Prop where
 F:Fun K x x st f fd
 b:Binds K fd ps []
 g:mg x=some (.ref f)
end L2
namespace L2
open PySem PySem.Spec PyProof.Rows
def TrD (h base:Heap) (e:Addr) (cls a0:Value) (dd:Option Addr) (fl:Value):Prop:=
 ∃oe vs T oT ts,h.get? e=some oe∧(oe.cls=cls∧oe.dict=dd∧vs[0]? =some a0)∧oe.data= .fields vs∧vs[1]? =some (.ref T)∧base.get? T=none∧T≠e∧h.get? T=some oT∧oT.data= .fields ts∧ts[3]? =some fl
def yY (base:Heap) (l:List Env) (e:Addr) (cls a0:Value) (dd:Option Addr) (fl:Value) (h:Heap):Prop:=base.StaysIn h∧base.get? e=none∧h.FunFrames base l∧TrD h base e cls a0 dd fl
theorem zmq (o:Obj) (f:Array Value→Array Value):(Obj.mapFields f o).dict=o.dict:=by
 obtain ⟨c,d,dt,sl⟩:=o
 cases dt <;> rfl
section
variable {M:Model} {A:Around} {E:Value→Shared→Prop} {s:Shared} {base:Heap} {env:Env} {outer l:List Env} {L e:Addr} {oe:Obj} {vs:Array Value} {head a0 cls fl:Value} {dd:Option Addr} {hadNext:Bool} {Q:Unit→Shared→Prop}
theorem znt (hfr:A.frames=some (env::outer)) (hl:s.heap.FunFrames base (env::outer)) (hf:env.frame=some L)
  (he:s.heap.get? e=some oe) (hkb:base.StaysIn s.heap) (hen:base.get? e=none) (hd:oe.data= .fields vs) (hsz:1 < vs.size) (h0:vs[0]? =some a0)
  (h: ∀h',yY base (env::outer) e oe.cls a0 oe.dict (rawInt L) h'→s.heap.UpToSlots h'→Q () {s with heap:=h'}):
  wpAny M A (do let a ←PySem.frameOf env;let pl ←entryPlaceOf L hadNext;let b ←EntryCells.newEntry head a .none (rawInt L) .none pl;setField (.ref e) 1 b) Q E s:=by
 have ne:e∉(env::outer).filterMap (·.frame):=fun hm=>by
  obtain ⟨_,o,ho,hnf⟩:=hl.mem hm
  rw [he] at ho;cases ho;exact hnf vs hd
 refine wpAny_bind (wpAny_frameOf_fun hfr hl hf fun g hg=>wpAny_bind (wpAny_entryPlaceOf fun pl hpl=>?_))
 unfold EntryCells.newEntry newFields
 refine wpAny_bind (wpAny_newObj_type ?_ (hpl.sizeOk5 _ _ _ _ _))
 generalize hO:({cls:= .type "traceback",dict:=none,data:= .fields ([head,.ref L,.none,rawInt L,.none]++(if pl.isEmpty then List.replicate 6 Value.none else pl)).toArray}:Obj)=O
 have g1:g.get? e=some oe:=(hg.2.1 e ne).trans he
 have kb:base.StaysIn g:=fun b o q=>(hg.2.1 b fun hm=>by rw [(hl.mem hm).1] at q;cases q).trans (hkb b o q)
 have g2:=Heap.get?_push_of_some (h:=g) O g1
 refine wpAny_setField g2 hd hsz (h _ ?_ ?_)
 all_goals have te:g.objs.size≠e:=Nat.ne_of_gt (Heap.lt_size g1)
 all_goals have d3:=Obj.data_mapFields hd (·.setIfInBounds 1 (Value.ref g.objs.size))
 all_goals have g3:=Heap.get?_update_self (Obj.mapFields (·.setIfInBounds 1 (Value.ref g.objs.size))) g2 (Obj.isFreed_of_fields d3)
 all_goals have t3:=(Heap.get?_update_other (g.push O) (Obj.mapFields (·.setIfInBounds 1 (Value.ref g.objs.size))) (Ne.symm te)).trans (Heap.get?_push_size g (by rw [←hO];rfl))
 all_goals have keep: ∀b o,b≠e→g.get? b=some o→((g.push O).update e (Obj.mapFields (·.setIfInBounds 1 (Value.ref g.objs.size)))).get? b=some o:=fun b o hbe hb=>(Heap.get?_update_other _ _ (Ne.symm hbe)).trans (Heap.get?_push_of_some _ hb)
 all_goals have nr: ∀b o,s.heap.get? b=some o→(∀vs,o.data≠ .fields vs)→b≠e:=fun b o hb hnf q=>by rw [q,he] at hb;cases hb;exact hnf vs hd
 ·refine ⟨fun b o q=>keep b o (fun z=>by rw [z,hen] at q;cases q) (kb b o q),hen,hl.of_keeps fun b o hb hnf=>?_,?_⟩
  ·obtain ⟨sl,hs⟩:=hg.2.2 b o hb
   exact ⟨_,keep b _ (nr b o hb hnf) hs,rfl⟩
  ·exact ⟨_,_,g.objs.size,O,([head,.ref L,.none,rawInt L,.none]++(if pl.isEmpty then List.replicate 6 Value.none else pl)).toArray,g3,⟨Obj.cls_mapFields _ _,zmq _ _,by rw [Array.getElem?_setIfInBounds_ne (by decide)];exact h0⟩,d3,by simp [hsz],kb.fresh,te,t3,by rw [←hO],by first | (simp;done) | (rcases hpl with rfl | ⟨_,_,_,_,_,_,_,rfl⟩ <;> simp)⟩
 ·intro b o hb hnf
  obtain ⟨sl,hs⟩:=hg.2.2 b o hb
  exact ⟨sl,keep b _ (nr b o hb hnf) hs⟩
theorem zh6 (fo:Option Addr) (R:yY base l e cls a0 dd fl s.heap) (h: ∀h',yY base l e cls a0 dd (fo.elim .none fun f=>rawInt f) h'→s.heap.UpToSlots h'→Q () {s with heap:=h'}):wpAny M A (setFlight (.ref e) fo) Q E s:=by
 obtain ⟨k,en,hl,oe,vs,T,oT,ts,he,hcls,hd,h1,hnT,hTe,hT,hdT,h3⟩:=R
 have z3:3 < ts.size:=(Array.getElem?_eq_some_iff.mp h3).1
 have oth: ∀b,b≠T→(s.heap.update T (Obj.mapFields (·.setIfInBounds 3 (fo.elim Value.none fun f=>rawInt f)))).get? b=s.heap.get? b:=fun b hb=>Heap.get?_update_other _ _ (Ne.symm hb)
 have nr: ∀b o,s.heap.get? b=some o→(∀vs,o.data≠ .fields vs)→b≠T:=fun b o hb hnf q=>by rw [q,hT] at hb;cases hb;exact hnf ts hdT
 unfold setFlight
 refine wpAny_bind (wpAny_field he hd h1 ?_)
 rw [if_pos (show (Value.ref T !=Value.none)=true from by simp)]
 refine wpAny_setField hT hdT z3 (h _ ⟨fun b o q=>(oth b fun z=>by rw [z,hnT] at q;cases q).trans (k b o q),en,hl.of_keeps fun b o hb hnf=>⟨o,(oth b (nr b o hb hnf)).trans hb,rfl⟩,?_⟩ fun b o hb hnf=>⟨o.slots,(oth b (nr b o hb hnf)).trans hb⟩)
 exact ⟨oe,vs,T,_,_,(oth e (Ne.symm hTe)).trans he,hcls,hd,h1,hnT,hTe,Heap.get?_update_self _ hT (Obj.isFreed_of_fields (Obj.data_mapFields hdT _)),Obj.data_mapFields hdT _,by simp [z3]⟩
theorem zqm (hfr:A.frames=some (env::outer)) (hf:env.frame=some L) (R:yY base (env::outer) e cls a0 dd .none s.heap)
  (h: ∀h',yY base (env::outer) e cls a0 dd (rawInt L) h'→s.heap.UpToSlots h'→Q () {s with heap:=h'}):wpAny M A (noteFrame (.ref e) env) Q E s:=by
 obtain ⟨k,en,hl,oe,vs,T,oT,ts,he,⟨rfl,rfl,h0⟩,hd,h1,hnT,hTe,hT,hdT,h3⟩:=R
 unfold noteFrame
 simp only [hf]
 refine wpAny_bind (wpAny_field he hd h1 ?_)
 rw [if_pos (show (Value.ref T !=Value.none)=true from by simp)]
 refine wpAny_bind (wpAny_field hT hdT h3 ?_)
 rw [if_neg (show ¬((Value.none==rawInt L)=true) from by simp [rawInt])]
 refine wpAny_bind (wpAny_setField hT hdT (Array.getElem?_eq_some_iff.mp h3).1 ?_)
 have oth: ∀b,b≠T→(s.heap.update T (Obj.mapFields (·.setIfInBounds 3 Value.none))).get? b=s.heap.get? b:=fun b hb=>Heap.get?_update_other _ _ (Ne.symm hb)
 have nr: ∀b o,s.heap.get? b=some o→(∀vs,o.data≠ .fields vs)→b≠T:=fun b o hb hnf q=>by rw [q,hT] at hb;cases hb;exact hnf ts hdT
 exact znt hfr (hl.of_keeps fun b o hb hnf=>⟨o,(oth b (nr b o hb hnf)).trans hb,rfl⟩) hf ((oth e (Ne.symm hTe)).trans he) (fun b o q=>(oth b fun z=>by rw [z,hnT] at q;cases q).trans (k b o q)) en hd (Array.getElem?_eq_some_iff.mp h1).1 h0
  fun h' x u=>h h' x fun b o hb hnf=>u b o ((oth b (nr b o hb hnf)).trans hb) hnf
theorem zpx (hfr:A.frames=some (env::outer)) (hl:s.heap.FunFrames base (env::outer)) (hf:env.frame=some L) (he:s.heap.get? e=some oe) (hkb:base.StaysIn s.heap) (hen:base.get? e=none) (hd:oe.data= .fields vs) (h1:vs[1]? =some .none) (h0:vs[0]? =some a0)
  (h: ∀h',yY base (env::outer) e oe.cls a0 oe.dict .none h'→s.heap.UpToSlots h'→Q () {s with heap:=h'}):wpAny M A (leaving env (.ref e)) Q E s:=by
 unfold leaving noteFrame
 simp only [hf]
 refine wpAny_bind (wpAny_bind (wpAny_field he hd h1 ?_))
 rw [if_neg (by decide)]
 exact znt hfr hl hf he hkb hen hd (Array.getElem?_eq_some_iff.mp h1).1 h0 fun h' x u=>zh6 none x fun h'' y v=>h h'' y (u.trans v)
theorem zrk (hfr:A.frames=some (env::outer)) (hf:env.frame=some L) (R:yY base (env::outer) e cls a0 dd .none s.heap) (h: ∀h',yY base (env::outer) e cls a0 dd .none h'→s.heap.UpToSlots h'→Q () {s with heap:=h'}):wpAny M A (leaving env (.ref e)) Q E s:=by
 unfold leaving
 exact wpAny_bind (zqm hfr hf R fun h' x u=>zh6 none x fun h'' y v=>h h'' y (u.trans v))
end
def Trc (h:Heap) (a T:Addr) (cls a0:Value) (dd:Option Addr):Prop:=
 ∃oe vs oT ts,h.get? a=some oe∧(oe.cls=cls∧oe.dict=dd∧vs[0]? =some a0)∧oe.data= .fields vs∧vs[1]? =some (.ref T)∧T≠a∧h.get? T=some oT∧oT.data= .fields ts∧ts[3]? =some .none
structure Left (l:List Env) (hid:List Addr) (a T':Addr) (cls a0:Value) (dd:Option Addr) (h h':Heap):Prop where
 keep: ∀b o,h.get? b=some o→b∉hid→h'.get? b=some o
 slot: ∀b o,h.get? b=some o→b∈zM l→∃sl,h'.get? b=some {o with slots:=sl}
 trc:Trc h' a T' cls a0 dd
 new: ∀b o,h.get? b=some o→b∉hid→b≠T'
 nfr:T'∉zM l
section
variable {M:Model} {A:Around} {E:Value→Shared→Prop} {s:Shared} {base:Heap} {env:Env} {outer:List Env} {L a T:Addr} {cls a0:Value} {dd:Option Addr} {Q:Unit→Shared→Prop}
theorem zhw {l:List Env}: ∀env∈l,∀b,env.frame=some b→b∈zM l:=fun env he b hb=>List.mem_filterMap.mpr ⟨env,he,hb⟩
theorem zlk {l:List Env} {hid:List Addr} {h h':Heap} (hl:h.FunFrames base l) (x:yY (PySem.W.hideAll h hid) l a cls a0 dd .none h') (x4:h.UpToSlots h'): ∃T',Left l hid a T' cls a0 dd h h':=by
 obtain ⟨x1,_,x2,oe,vs,T',oT,ts,t1,t2,t3,t4,t5,t6,t7,t8,t9⟩:=x
 have kp: ∀b o,h.get? b=some o→b∉hid→(PySem.W.hideAll h hid).get? b=some o:=fun b o e n=>PySem.W.hideAll_get hid e n
 refine ⟨T',fun b o e n=>x1 b o (kp b o e n),fun b o e hb=>?_,⟨oe,vs,oT,ts,t1,t2,t3,t4,t6,t7,t8,t9⟩,fun b o e n z=>?_,fun hb=>?_⟩
 ·refine x4 b o e fun vs hv=>?_
  obtain ⟨_,o',ho',hn⟩:=hl.mem hb
  rw [e] at ho'
  cases ho'
  exact hn vs hv
 ·have:=kp b o e n
  rw [z,t5] at this
  cases this
 ·obtain ⟨_,o',ho',hn⟩:=x2.mem hb
  rw [t7] at ho'
  cases ho'
  exact hn ts t8
theorem zm6 (hfr:A.frames=some (env::outer)) (hl:s.heap.FunFrames base (env::outer)) (hf:env.frame=some L) (tr:Trc s.heap a T cls a0 dd)
  (hQ: ∀h' T',Left (env::outer) (a::T::zM (env::outer)) a T' cls a0 dd s.heap h'→Q () {s with heap:=h'}):wpAny M A (leaving env (.ref a)) Q E s:=by
 obtain ⟨oe,vs,oT,ts,t1,t2,t3,t4,t6,t7,t8,t9⟩:=tr
 have hid: ∀b∈zM (env::outer),b∈a::T::zM (env::outer):=fun b hb=> .tail _ (.tail _ hb)
 refine zrk (base:=PySem.W.hideAll s.heap (a::T::zM (env::outer))) (cls:=cls) (a0:=a0) (dd:=dd) hfr hf ⟨fun b o q=>PySem.W.of_hideAll _ q,PySem.W.hideAll_none _ (.head _),PySem.W.funFrames_hide hl fun e he b hb=>hid b (zhw e he b hb),
  oe,vs,T,oT,ts,t1,t2,t3,t4,PySem.W.hideAll_none _ (.tail _ (.head _)),t6,t7,t8,t9⟩ fun h' x u=>?_
 obtain ⟨T',y⟩:=zlk hl x u
 exact hQ h' T' y
theorem zgi {oe:Obj} {vs:Array Value} (hfr:A.frames=some (env::outer)) (hl:s.heap.FunFrames base (env::outer)) (hf:env.frame=some L) (he:s.heap.get? a=some oe) (hd:oe.data= .fields vs) (h1:vs[1]? =some .none) (h0:vs[0]? =some a0)
  (hQ: ∀h' T',Left (env::outer) (a::zM (env::outer)) a T' oe.cls a0 oe.dict s.heap h'→Q () {s with heap:=h'}):wpAny M A (leaving env (.ref a)) Q E s:=by
 have hid: ∀b∈zM (env::outer),b∈a::zM (env::outer):=fun b hb=> .tail _ hb
 refine zpx (base:=PySem.W.hideAll s.heap (a::zM (env::outer))) hfr (PySem.W.funFrames_hide hl fun e he b hb=>hid b (zhw e he b hb)) hf he (fun b o q=>PySem.W.of_hideAll _ q) (PySem.W.hideAll_none _ (.head _)) hd h1 h0 fun h' x u=>?_
 obtain ⟨T',y⟩:=zlk hl x u
 exact hQ h' T' y
end
theorem HOk.there {P:Program} {w:World} {H:Hp} {h:Heap} {a:Addr} {o:HO} (x:HOk P w H h) (q:H a=some o): ∃ob,h.get? a=some ob:=by
 have this:=x a o q
 cases e:h.get? a with
 | some ob=>exact ⟨ob,rfl⟩
 | none=>
  exfalso
  cases o with
  | lst xs=>obtain ⟨_,_,_,_,z⟩:=this;rw [e] at z;cases z
  | tup xs=>obtain ⟨_,_,_,o1,z,_⟩:=this;rw [e] at z;cases z
  | dK kvs=>obtain ⟨_,_,_,_,o,_,_,z,_⟩:=this;rw [e] at z;cases z
  | dT kvs=>obtain ⟨_,_,_,_,o,_,_,z,_⟩:=this;rw [e] at z;cases z
  | set S n=>obtain ⟨o,_,_,_,z,_⟩:=this;rw [e] at z;cases z
  | ins C dx fs=>obtain ⟨_,_,_,z,_⟩:=this;rw [e] at z;cases z
  | own y=>obtain ⟨_,z⟩:=this;rw [e] at z;cases z
  | xd fs=>obtain ⟨_,⟨_,_,_,z,_⟩,_⟩:=this;rw [e] at z;cases z
  | rng lo hi=>obtain ⟨_,_,_,z⟩:=this;rw [e] at z;cases z
  | frz ob u=>obtain ⟨z,_⟩:=this;rw [e] at z;cases z
  | tbl ps=>have z:h.get? a=some _:=this;rw [e] at z;cases z
  | met f y=>have z:h.get? a=some _:=this;rw [e] at z;cases z
  | ext φ=>obtain ⟨_,⟨_,z⟩,_⟩:=this;rw [e] at z;cases z
theorem HOk.untracked {P:Program} {w:World} {H:Hp} {h:Heap} {a:Addr} (x:HOk P w H h) (e:h.get? a=none):H a=none:=by
 cases q:H a with
 | none=>rfl
 | some o=>
  obtain ⟨ob,z⟩:=x.there q
  rw [e] at z;cases z
def XT (P:Program) (w:World):yZ:=fun outer H s E e s'=> ∃(a T:Addr) (cls a0:Value) (dd:Option Addr) (H':Hp),e= .ref a∧s'.os=s.os∧AllBare s'.gens∧Un (zM outer) [] H H' s.heap s'.heap∧HOk P w H' s'.heap∧
 s.heap.get? a=none∧s.heap.get? T=none∧H' a=none∧H' T=none∧Trc s'.heap a T cls a0 dd∧E cls dd H'
section
variable {P:Program} {w:World} {K:PySem.W.Frag} {mg:Str→Option Value} {base:Heap} {N:List Str} {qual:Str} {scope:Scope} {f:Addr} {cd:Value} {A:Around} {outer:List Env} {s0:Shared} {H0:Hp} {E:XK}
theorem Inv.left {X:Cx} {pins:List (Addr×Obj)} {σ:St} {H:Hp} {s:Shared} {hid:List Addr} {a T':Addr} {cls a0:Value} {dd:Option Addr} {h':Heap} (hst:X.stack=X.env::X.outer) (hex:X.ex=[]) (I:Inv X pins σ H s) (y:Left X.stack hid a T' cls a0 dd s.heap h')
  (hh: ∀b∈hid,(b∈zM X.stack∨X.s₀.heap.get? b=none)∧H b=none):
  Un X.fs [] X.H₀ H X.s₀.heap h'∧HOk X.prog X.w H h'∧X.s₀.heap.get? T'=none∧H T'=none:=by
 have hfo: ∀b o,X.s₀.heap.get? b=some o→b∉X.fs→b∉zM X.stack:=fun b o e n hb=>by
  rcases List.mem_cons.mp (I.stkSub b hb) with z | z
  ·have h1:=Heap.lt_size e
   have h2:=I.ok.above
   rw [z] at h1
   exact absurd (Nat.lt_of_lt_of_le h1 h2) (Nat.lt_irrefl _)
  ·exact n z
 have nh: ∀b o,X.s₀.heap.get? b=some o→b∉X.fs→b∉hid:=fun b o e n hb=>by
  rcases (hh b hb).1 with z | z
  ·exact hfo b o e n z
  ·rw [e] at z;cases z
 have fsub: ∀b∈X.fs,b∈zM X.stack:=fun b hb=>by
  rw [hst]
  obtain ⟨v,hv,e⟩:=List.mem_filterMap.mp hb
  exact List.mem_filterMap.mpr ⟨v,.tail _ hv,e⟩
 have U:=I.base
 rw [hex] at U
 have no: ∀b:Addr,b∉([]:List Addr):=fun b z=>nomatch z
 have anyway: ∀b o,s.heap.get? b=some o→(b∉hid∨b∈zM X.stack)→∃o',h'.get? b=some o':=fun b o e d=>by
  rcases d with d | d
  ·exact ⟨o,y.keep b o e d⟩
  ·obtain ⟨sl,q⟩:=y.slot b o e d
   exact ⟨_,q⟩
 refine ⟨⟨fun b o e n hb _=>y.keep b o (U.keep b o e n hb (no b)) (nh b o e hb),fun b o e n hb _=>?_,U.free,fun b o e _=>?_,U.tups,U.frzs,U.tbls⟩,fun b o e=>?_,?_,?_⟩
 ·obtain ⟨sl,q⟩:=U.slot b o e n hb (no b)
  obtain ⟨sl',q'⟩:=y.slot b _ q (fsub b hb)
  exact ⟨sl',q'⟩
 ·obtain ⟨o',q⟩:=U.there b o e (no b)
  refine anyway b o' q ?_
  by_cases z:b∈X.fs
  ·exact .inr (fsub b z)
  ·exact .inl (nh b o e z)
 ·refine (I.hok b o e).stay (fun c u hc ec=>y.keep c u ec fun hm=>?_) (fun _ z=>z) fun _ _ z=>z
  have:=(hh c hm).2
  rcases hc with z | z
  ·rw [z,e] at this;cases this
  ·rw [z] at this;cases this
 ·cases q:X.s₀.heap.get? T' with
  | none=>rfl
  | some o=>
   exfalso
   obtain ⟨o',q'⟩:=U.there T' o q (no T')
   by_cases z:T'∈X.fs
   ·exact y.nfr (fsub _ z)
   ·exact y.new T' o' q' (nh T' o q z) rfl
 ·cases q:H T' with
  | none=>rfl
  | some o=>
   exfalso
   obtain ⟨ob,hob⟩:=I.hok.there q
   refine y.new T' ob hob (fun hm=>?_) rfl
   have:=(hh T' hm).2
   rw [q] at this;cases this
theorem ztb:zff (XT P w) (zK (XT P w) P w K mg base N qual scope f cd A outer s0 H0 E) E:=by
 intro pins σ H s e s' I hx
 obtain ⟨a,T,cls,a0,dd,H',rfl,os,bare,un,hok,na,nT,ha,hT,tr,q⟩:=hx
 have I':Inv (zK (XT P w) P w K mg base N qual scope f cd A outer s0 H0 E) pins σ H' s':=I.call' os un hok bare fun b z=>nomatch z
 have old: ∀b,s.heap.get? b=none→s0.heap.get? b=none:=fun b e=>by
  cases z:s0.heap.get? b with
  | none=>rfl
  | some o=>
   obtain ⟨o',q'⟩:=I.base.there b o z fun y=>nomatch y
   rw [e] at q';cases q'
 refine zm6 (base:=base) (L:=s0.heap.objs.size) I'.ok.frames I'.stack rfl tr fun h' T' y=>?_
 obtain ⟨u,hk,n1,n2⟩:=I'.left rfl rfl y fun b hb=>by
  rcases List.mem_cons.mp hb with z | hb
  ·rw [z];exact ⟨.inr (old a na),ha⟩
  ·rcases List.mem_cons.mp hb with z | hb
   ·rw [z];exact ⟨.inr (old T nT),hT⟩
   ·exact ⟨.inl hb,I'.stkFree b hb⟩
 exact ⟨a,T',cls,a0,dd,H',rfl,I'.os,I'.bare,u,hk,old a na,n1,ha,n2,y.trc,q⟩
def zjr (X:Cx) (E:XK):Prop:=∀(pins:List (Addr×Obj)) (σ:St) (H:Hp) (s:Shared) (a C:Addr) (vs:List Value) (h':Heap),Inv X pins σ H s→Heap.MadeExcOf s.heap h' a (.ref C) vs→E (.ref C) none H→X.xe (.ref a) {s with heap:=h'}
theorem zk3:zjr (zK (XT P w) P w K mg base N qual scope f cd A outer s0 H0 E) E:=by
 intro pins σ H s a C vs h' I mk q
 have I':Inv (zK (XT P w) P w K mg base N qual scope f cd A outer s0 H0 E) pins σ H {s with heap:=h'}:=I.kept (t':=s.toks) mk.keeps
 have na:H a=none:=I.hok.untracked mk.new
 have old:s0.heap.get? a=none:=by
  cases z:s0.heap.get? a with
  | none=>rfl
  | some o=>
   obtain ⟨o',q'⟩:=I.base.there a o z fun y=>nomatch y
   rw [mk.new] at q';cases q'
 obtain ⟨t,ht,_,_⟩:=mk.there
 refine zgi (base:=base) (L:=s0.heap.objs.size) (a0:= .ref t) I'.ok.frames I'.stack rfl ht rfl rfl rfl fun h'' T' y=>?_
 obtain ⟨u,hk,n1,n2⟩:=I'.left rfl rfl y fun b hb=>by
  rcases List.mem_cons.mp hb with z | hb
  ·rw [z];exact ⟨.inr old,na⟩
  ·exact ⟨.inl hb,I'.stkFree b hb⟩
 exact ⟨a,T',.ref C,_,none,H,rfl,I'.os,I'.bare,u,hk,old,n1,na,n2,y.trc,q⟩
end
abbrev qw:List Value:=[.type "ValueError",.type "Exception",.type "BaseException",.type "object"]
structure XCl (K:PySem.W.Frag) (mg:Str→Option Value) (x:Str) (C:Addr):Prop where
 ex:PySem.W.excIn K C qw "ValueError.__new__" =true
 gl:mg x=some (.ref C)
theorem XCl.own {K:PySem.W.Frag} {mg:Str→Option Value} {x:Str} {C:Addr} {h:Heap} (c:XCl K mg x C) (X:K.In h):OwnCls x C qw "ValueError.__new__" mg h:=by
 have q:=c.ex
 unfold PySem.W.excIn at q
 split at q
 case h_2=>cases q
 case h_1 dd cd sl ho=>
  split at q
  case h_2=>cases q
  case h_1 C' bm y0 y1 y2 y3 n y5 hm hs=>
   simp only [Bool.and_eq_true,beq_iff_eq,Bool.not_eq_true'] at q
   obtain ⟨⟨⟨⟨⟨e1,e2⟩,hdel⟩,ht⟩,hok⟩,hni⟩:=q
   subst e1
   subst e2
   cases cd with
   | mk nm bs mro ns qn hd sn sub ab col del=>
   simp only at hm hdel hok hni
   cases hm
   cases hdel
   have e:sl= #[y0,y1,y2,y3,some (.builtin "ValueError.__new__"),y5]:=Array.ext' hs
   cases e
   exact ⟨c.gl,bm,ns,nm,qn,bs,hd,sn,sub,ab,col,dd,y0,y1,y2,y3,y5,h.nsMap ns,X _ _ ho,.of_isNs (PySem.W.isNs_of_in X hok),PySem.W.nsMap_none_of_in X hok hni,PySem.W.tail_of_in X ht⟩
section
variable {X:Cx} {x:Str} {C:Addr} {np cpos pos:Pos} {e:Expr} {es:List Expr} {ta:TA} {E:XK}
def zqg (C:Addr) (E:XK) (ta:TA):TS:=fun _ σ H=>ta σ H fun vs H1=>vs.length≤1000∧E (.ref C) none H1
theorem zlw (c:XCl X.K X.mg x C) (hc:X.calm=true) (hg:Gl X x) (hr:zjr X E) (ha:PA X (e::es) ta) (hs:starEach (e::es) X.env=(false,eval e X.env)::starEach es X.env:=by rfl) (hp:(backTo cpos (starEach es X.env)).any (·.1)=false:=by rfl)
  (hd:(x==("__debug__" :Str))=false:=by decide):PS X (.Raise (some (.Call (.Name x np) (e::es) [] cpos)) none pos) (zqg C E ta):=by
 intro pins s σ H D I h
 obtain ⟨tl,N,nm,q,bs,hdct,sn,sub,ab,col,dd,k0,k1,k2,k3,k5,mN,hC,hN,hni,T⟩:=(c.own I.ok.mod.kin).obj
 refine wpAny_Raise_call_subT PySem.F.excBase_ValueError (bm:=tl) (mN:=mN) (C:=C) (N:=N) (k5:=k5) (k3:=k3) (k2:=k2) (k1:=k1) (k0:=k0) (dd:=dd) (col:=col) (ab:=ab) (sub:=sub) (sn:=sn) (hdct:=hdct) (bs:=bs) (q:=q) (nm:=nm) (T.hasType (by decide)) (I.ok.hd hc) (by rw [hs];show (false || _)=false;rw [Bool.false_or];exact hp) hni (zc1 I hg c.gl ⟨rfl,?_⟩ hd)
 rw [hs]
 refine Calls.evalArgs_plain (zk (by have:=ha cpos pins s σ H _ I h;rw [hs] at this;exact this) fun us s1 z=>?_)
 obtain ⟨vs,H1,I1,rv,hl,q1⟩:=z
 exact ⟨rfl,by show us.length≤sizeLine;rw [←rv.length];exact Nat.le_of_lt (zgh hl),I1.bk _ _ hC,hN.keeps I1.bk,T.keeps I1.bk,fun h' a mk=>hr pins σ H1 s1 a C us h' I1 mk q1⟩
end
theorem Fun.okX {P:Program} {w:World} {K:PySem.W.Frag} {mg:Str→Option Value} {base:Heap} {x qual:Str} {st:Stmt} {f:Addr} {fd:FuncData} {N ps:List Str} {k:Nat} {sp:Sp} (F:Fun K x qual st f fd) (S:FnScope N ps (zx st)) (len: ∀vs H Q E,sp vs H Q E→vs.length=ps.length)
  (hbody: ∀(cdv:Value) (A:Around) (outer:List Env) (s:Shared) (H:Hp) (vs:List V) (Q:VK) (E:XK),Room k (A.deeper (envOfC qual (zx st) s.heap.objs.size f cdv))→sp vs H Q E→
   ∃t,zW (zK (XT P w) P w K mg base N qual (zx st) f cdv A outer s H E) (zcn st) t∧t {nx:=fun _ H'=>Q .non H',rt:=Q} (start N vs) H):FnOk P w K mg base (XT P w) (k+1) f fd ps sp:=by
 obtain ⟨oc,od,kV,doc,pm,an,cdv,ct,osl,rfl,lk,hcd⟩:=F.ex
 exact ztx lk hcd S len fun A outer s H vs Q E hr hsp=>hbody cdv A outer s H vs Q E hr hsp
theorem zo5 {fs hid:List Addr} {H H':Hp} {h h1 h2:Heap} (u:Un fs [] H H' h h1) (keep: ∀b o,h1.get? b=some o→b∉hid→h2.get? b=some o)
  (slot: ∀b o,h1.get? b=some o→b∈fs→∃sl,h2.get? b=some {o with slots:=sl}) (hh: ∀b∈hid,b∈fs∨h.get? b=none):Un fs [] H H' h h2:=by
 have no: ∀b:Addr,b∉([]:List Addr):=fun b z=>nomatch z
 have nh: ∀b o,h.get? b=some o→b∉fs→b∉hid:=fun b o e n hb=>by
  rcases hh b hb with z | z
  ·exact n z
  ·rw [e] at z;cases z
 refine ⟨fun b o e n hb _=>keep b o (u.keep b o e n hb (no b)) (nh b o e hb),fun b o e n hb _=>?_,u.free,fun b o e _=>?_,u.tups,u.frzs,u.tbls⟩
 ·obtain ⟨sl,q⟩:=u.slot b o e n hb (no b)
  obtain ⟨sl',q'⟩:=slot b _ q hb
  exact ⟨sl',q'⟩
 ·obtain ⟨o',q⟩:=u.there b o e (no b)
  by_cases z:b∈fs
  ·obtain ⟨sl,q'⟩:=slot b o' q z
   exact ⟨_,q'⟩
  ·exact ⟨o',keep b o' q (nh b o e z)⟩
theorem zl1 {P:Program} {w:World} {H:Hp} {h1 h2:Heap} {hid:List Addr} (k:HOk P w H h1) (keep: ∀b o,h1.get? b=some o→b∉hid→h2.get? b=some o) (hh: ∀b∈hid,H b=none):HOk P w H h2:=fun b o e=>by
 refine (k b o e).stay (fun c u hc ec=>keep c u ec fun hm=>?_) (fun _ z=>z) fun _ _ z=>z
 have:=hh c hm
 rcases hc with z | z
 ·rw [z,e] at this;cases this
 ·rw [z] at this;cases this
section
variable {X:Cx} {pins:List (Addr×Obj)} {σ:St} {H:Hp} {s:Shared}
abbrev Cx.pinned (X:Cx) (pn:List (Addr×Obj)):Cx:={X with pn:=pn}
abbrev Cx.suite (X:Cx) (e:Value):Cx:={X with A:=X.A.mark (some e),calm:=false}
theorem Inv.inPn (I:Inv X pins σ H s):Inv (X.pinned (X.pn++pins)) [] σ H s:=
 ⟨⟨I.ok.mod,I.ok.kind,I.ok.glob,I.ok.blt,I.ok.above,I.ok.inj,I.ok.has,I.ok.cab,I.ok.hd,I.ok.frames,I.ok.stk,I.ok.exf,I.ok.bs,I.ok.bsz,I.ok.noex,I.ok.exfs,I.ok.funs,I.ok.frf⟩,I.os,I.bare,I.base,I.loc,I.cell,I.free,I.freeC,fun p hp=>I.pin p (by rw [List.append_nil] at hp;exact hp),I.hok,I.len⟩
theorem Inv.unpin {ps:List (Addr×Obj)} (I:Inv (X.pinned (X.pn++pins)) ps σ H s):Inv X pins σ H s:=
 ⟨⟨I.ok.mod,I.ok.kind,I.ok.glob,I.ok.blt,I.ok.above,I.ok.inj,I.ok.has,I.ok.cab,I.ok.hd,I.ok.frames,I.ok.stk,I.ok.exf,I.ok.bs,I.ok.bsz,I.ok.noex,I.ok.exfs,I.ok.funs,I.ok.frf⟩,I.os,I.bare,I.base,I.loc,I.cell,I.free,I.freeC,fun p hp=>I.pin p (List.mem_append_left _ hp),I.hok,I.len⟩
theorem Inv.suite (I:Inv X pins σ H s) (e:Value):Inv (X.suite e) pins σ H s:=
 ⟨⟨I.ok.mod,I.ok.kind,I.ok.glob,I.ok.blt,I.ok.above,I.ok.inj,I.ok.has,I.ok.cab,(fun z=>Bool.noConfusion z),I.ok.frames,I.ok.stk,I.ok.exf,I.ok.bs,I.ok.bsz,I.ok.noex,I.ok.exfs,I.ok.funs,I.ok.frf⟩,I.os,I.bare,I.base,I.loc,I.cell,I.free,I.freeC,I.pin,I.hok,I.len⟩
theorem Inv.unsuite {e:Value} (hc:X.calm=true→X.A.handled=none) (I:Inv (X.suite e) pins σ H s):Inv X pins σ H s:=
 ⟨⟨I.ok.mod,I.ok.kind,I.ok.glob,I.ok.blt,I.ok.above,I.ok.inj,I.ok.has,I.ok.cab,hc,I.ok.frames,I.ok.stk,I.ok.exf,I.ok.bs,I.ok.bsz,I.ok.noex,I.ok.exfs,I.ok.funs,I.ok.frf⟩,I.os,I.bare,I.base,I.loc,I.cell,I.free,I.freeC,I.pin,I.hok,I.len⟩
theorem SP.conv {Y:Cx} {ps:List (Addr×Obj)} {D:Ends} {f:Flow} {s':Shared} (k: ∀σ' H',Inv Y ps σ' H' s'→Inv X pins σ' H' s') (h:SP Y ps D f s'):SP X pins D f s':=by
 cases f with
 | next=>obtain ⟨σ',H',I,q⟩:=h;exact ⟨σ',H',k _ _ I,q⟩
 | brk=>obtain ⟨σ',H',I,q⟩:=h;exact ⟨σ',H',k _ _ I,q⟩
 | cont=>obtain ⟨σ',H',I,q⟩:=h;exact ⟨σ',H',k _ _ I,q⟩
 | ret u=>obtain ⟨v,σ',H',I,r,q⟩:=h;exact ⟨v,σ',H',k _ _ I,r,q⟩
end
def zrx (a:Addr) (cls:Value) (dd:Option Addr):Heap→Prop:=fun h=> ∃o vs,h.get? a=some o∧o.cls=cls∧o.data= .fields vs∧o.dict=dd
abbrev yd (a:Addr) (cls:Value) (dd:Option Addr):HO:= .ext (zrx a cls dd)
section
variable {X:Cx} {pins:List (Addr×Obj)} {σ:St} {H:Hp} {s:Shared}
theorem Inv.track {a:Addr} {o:HO} (I:Inv X pins σ H s) (hn:H a=none) (h0:X.s₀.heap.get? a=none) (hl:a≠X.env.locals) (hc: ∀x c,X.env.cells.lookup x=some c→c≠a) (hp: ∀p∈X.pn++pins,p.1≠a) (new:ObjOk X.prog X.w (zi H a o) s.heap a o):
  Inv X pins σ (zi H a o) s:=by
 refine ⟨I.ok,I.os,I.bare,⟨I.base.keep,I.base.slot,fun b u e n hx=>?_,I.base.there,fun b xs e=>?_,fun b u v e=>?_,fun b ps e=>?_⟩,I.loc,I.cell,?_,fun y c e=>?_,fun p q=>?_,fun b u e=>?_,I.len⟩
 ·rw [zv (fun z=>by rw [z,h0] at e;cases e)];exact I.base.free b u e n hx
 ·rw [zv (yG (I.base.tups b xs e) hn)];exact I.base.tups b xs e
 ·rw [zv (yG (I.base.frzs b u v e) hn)];exact I.base.frzs b u v e
 ·obtain ⟨more,q⟩:=I.base.tbls b ps e
  exact ⟨more,by rw [zv (yG q hn)];exact q⟩
 ·rw [zv hl.symm];exact I.free
 ·rw [zv (hc y c e)];exact I.freeC y c e
 ·obtain ⟨e,n,r⟩:=I.pin p q
  exact ⟨e,by rw [zv (hp p q)];exact n,r⟩
 ·by_cases hb:b=a
  ·subst hb;rw [zX] at e;cases e;exact new
  ·rw [zv hb] at e
   exact (I.hok b u e).stay (fun c v _ q=>q) (fun c q=>by rw [zv (yG q hn)];exact q) fun c xs q=>by rw [zv (yG q hn)];exact q
theorem zga {M:Model} {A:Around} {E:Value→Shared→Prop} {i:Nat} {n:Str} {pos:Pos} {Q:Unit→Shared→Prop} (I:Inv X pins σ H s) (hN:X.N.Nodup) (hi:X.N[i]? =some n) (hx:X.env.kindOf n=some .local)
  (h: ∀s',Inv X pins (σ.set i none) H s'→Q () s'):wpAny M A (do bindName X.env n .none;unbindBehindTheSuite X.env n pos) Q E s:=by
 obtain ⟨m,hn,hl⟩:=id I.loc
 have hcls:(X.env.scope.kind== .class || (X.env.scope.kind== .module && X.env.locals !=X.env.globals))=false:=by rw [I.ok.kind];rfl
 refine wpAny_nameGoes_keeps hx hn hcls fun h' v hn' hs=>h _ ?_
 have lt: ∀b o,X.s₀.heap.get? b=some o→b≠X.env.locals:=fun b o e=>Nat.ne_of_lt (Nat.lt_of_lt_of_le (Heap.lt_size e) I.ok.above)
 refine ⟨I.ok,I.os,I.bare,⟨fun b o e n hb hx=>(hs.2 b (lt b o e)).trans (I.base.keep b o e n hb hx),fun b o e n hb hx=>?_,I.base.free,fun b o e hx=>?_,I.base.tups,I.base.frzs,I.base.tbls⟩,⟨_,hn',fun j y w e1 e2 e3=>?_⟩,fun y c e=>?_,I.free,I.freeC,fun p hp=>?_,fun b u e=>?_,by rw [List.length_set];exact I.len⟩
 ·obtain ⟨sl,e1⟩:=I.base.slot b o e n hb hx
  exact ⟨sl,(hs.2 b (lt b o e)).trans e1⟩
 ·obtain ⟨o',e1⟩:=I.base.there b o e hx
  exact ⟨o',(hs.2 b (lt b o e)).trans e1⟩
 ·by_cases hj:j=i
  ·subst hj
   by_cases hlt:j < σ.length
   ·rw [List.getElem?_set_self hlt] at e2;cases e2
   ·rw [List.getElem?_eq_none (by rw [List.length_set];omega)] at e2;cases e2
  ·rw [List.getElem?_set_ne (Ne.symm hj)] at e2
   obtain ⟨u,r,q⟩:=hl j y w e1 e2 e3
   refine ⟨u,r,?_⟩
   have ny:y≠n:=fun z=>hj (zf5 hN e1 (z ▸ hi))
   rcases q with ⟨k1,k2⟩ | ⟨k1,c,k2,k3⟩
   ·exact .inl ⟨k1,by simp [ny,k2]⟩
   ·exact .inr ⟨k1,c,k2,k3.sameBut hs (I.cne y c k2)⟩
 ·obtain ⟨w',z⟩:=I.cell y c e
  exact ⟨w',z.sameBut hs (I.cne y c e)⟩
 ·obtain ⟨e,n,ne,r⟩:=I.pin p hp
  exact ⟨(hs.2 p.1 ne).trans e,n,ne,r⟩
 ·refine (I.hok b u e).stay (fun c w' hc q=>(hs.2 c ?_).trans q) (fun _ q=>q) fun _ _ q=>q
  intro z
  rcases hc with y | y
  ·rw [←y,z,I.free] at e;cases e
  ·rw [z,I.free] at y;cases y
end
def zf1 (CX:yZ) (X:Cx) (σ₀:St) (E:XK):Prop:=∀(pins:List (Addr×Obj)) (H:Hp) (s:Shared) (e:Value) (s':Shared),Inv X pins σ₀ H s→CX X.stack H s E e s'→X.xe e s'
section
variable {X:Cx} {CX:yZ} {k:Nat} {f C:Addr} {fd:FuncData} {ps:List Str} {sp:Sp} {dvs:List V} {ds:List Value} {E:XK} {x m:Str} {p pos apos:Pos} {e o:Expr} {es:List Expr} {ta:TE} {t:TA} {σ₀:St}
theorem zmn {pins:List (Addr×Obj)} {H:Hp} {s:Shared} {Q:VK} {us:List Value} {vs:List V} (F:FnOk X.prog X.w X.K X.mg X.base CX k f fd ps sp) (hr:Room k X.A) (hb:Binds X.K fd ps ds) (hd:Vals dvs ds) (hx:zf1 CX X σ₀ E)
  (I:Inv X pins σ₀ H s) (r:Vals vs us) (h:sp (vs++dvs) H Q E):wpAny (model X.prog X.w) X.A (call (.ref f) us) (EP X pins σ₀ Q) X.xe s:=by
 have r2:Vals (vs++dvs) (us++ds):=r.append hd
 have hl:(us++ds).length=ps.length:=by rw [←r2.length];exact F.len _ _ _ _ h
 refine wpAny_call (codeAny_mono (F.run X.A X.stack s H ⟨us,[]⟩ (us++ds) (vs++dvs) Q E hr I.env0 (hb s us I.kIn hl) r2 h) fun r s' hq=>?_)
 match r,hq with
 | .error e,hq=>exact hx pins H s e s' I hq
 | .ok (.ret u),hq=>exact I.after hq
 | .ok .next,hq=>exact False.elim hq
 | .ok .brk,hq=>exact False.elim hq
 | .ok .cont,hq=>exact False.elim hq
theorem zj1 (F:FnOk X.prog X.w X.K X.mg X.base CX k f fd ps sp) (hr:Room k X.A) (hg:Gl X x) (hm:X.mg x=some (.ref f)) (hk:PySem.W.keepIn X.K (.ref f)=true) (hb:Binds X.K fd ps ds) (hd:Vals dvs ds) (hx:zf1 CX X σ₀ E)
  (ha:PA X (e::es) t) (hdb:(x==("__debug__" :Str))=false:=by decide) (he:starEach (e::es) X.env=(false,eval e X.env)::starEach es X.env:=by rfl) (hpl:(backTo pos (starEach es X.env)).any (·.1)=false:=by rfl):
  PE X (.Call (.Name x p) (e::es) [] pos) (fun σ H Q=>σ=σ₀∧zje sp dvs E t σ H Q):=by
 intro pins s σ H Q I ⟨hσ,h⟩
 subst hσ
 refine wpAny_Call_Name_kw (zc1 I hg hm ?_ hdb)
 refine PySem.W.callWith_K (h₀:=X.base) I.ok.mod.kin hk (zk (ha pos pins s σ H _ I h) fun us s1 ⟨vs,H1,I1,r,q⟩=>⟨I1.kIn,?_⟩) he hpl
 exact zmn F hr hb hd hx I1 r q
end
def zdz (X:Cx) (pn:List (Addr×Obj)) (σ₀:St) (E:XK):Value→Shared→Prop:=fun e s1=> ∃pins H s,Inv (X.pinned pn) pins σ₀ H s∧XT X.prog X.w X.stack H s E e s1
theorem zrf {X:Cx} {pn:List (Addr×Obj)} {σ₀:St} {E:XK}:zf1 (XT X.prog X.w) ((X.pinned pn).wish (zdz X pn σ₀ E)) σ₀ E:=fun pins H s e s' I h=>⟨pins,H,s,I.unwish,h⟩
structure Caught (X:Cx) (pins:List (Addr×Obj)) (σ:St) (H:Hp) (a:Addr) (cls:Value) (dd:Option Addr) (s:Shared):Prop where
 inv:Inv X pins σ H s
 fly: ∃B a0,yY B (X.env::X.outer) a cls a0 dd .none s.heap∧∀h',yY B (X.env::X.outer) a cls a0 dd .none h'→s.heap.UpToSlots h'→Inv X pins σ H {s with heap:=h'}
 free:H a=none
 old:X.s₀.heap.get? a=none
 loc:a≠X.env.locals
 cel: ∀x c,X.env.cells.lookup x=some c→c≠a
 pin: ∀p∈X.pn++pins,p.1≠a
def PHs (X:Cx) (hs:List ExceptHandler) (th:Value→Option Addr→TS):Prop:=∀(pins:List (Addr×Obj)) (σ:St) (H:Hp) (s:Shared) (D:Ends) (a:Addr) (cls:Value) (dd:Option Addr),Caught X pins σ H a cls dd s→th cls dd D σ H→wpAny (model X.prog X.w) X.A (handleBy (.ref a) X.env hs) (SP X pins D) X.xe s
section
variable {X:Cx} {x:Str} {B:Addr} {np hp pos:Pos} {b:List Stmt} {b₀:Stmt} {suite:List Stmt} {hs:List ExceptHandler} {th:TS} {tr:Value→Option Addr→TS}
abbrev z6:Value→Shared→Prop:=fun _ _=>False
def ztm (K:PySem.W.Frag) (B:Addr) (th:Value→Option Addr→TS) (tr:Value→Option Addr→TS):Value→Option Addr→TS:=fun cls dd D σ H=>(PySem.W.exmOne K cls (.ref B)=some true∧th cls dd D σ H)∨(PySem.W.exmOne K cls (.ref B)=some false∧tr cls dd D σ H)
theorem Caught.looks {pins:List (Addr×Obj)} {σ:St} {H:Hp} {a:Addr} {cls:Value} {dd:Option Addr} {s:Shared} {bb:Bool} (c:Caught X pins σ H a cls dd s) (hx:PySem.W.exmOne X.K cls (.ref B)=some bb):PySem.W.Looks (model X.prog X.w) s.heap (excMatches (.ref a) (.ref B)) bb:=by
 obtain ⟨Bs,a0,fly,_⟩:=c.fly
 obtain ⟨_,_,_,ob,_,_,_,_,hob,⟨hobc,_⟩,_⟩:=fly
 refine PySem.W.exm_one c.inv.kIn ?_ hx
 have:=(PySem.W.Looks.ld (M:=model X.prog X.w) (part:=none) hob)
 rw [←hobc]
 exact this.andThen .now
def tAs (i:Nat) (th:TS):Value→Option Addr→TS:=fun cls dd D σ H=> ∀a,H a=none→th {nx:=fun σ' H'=>D.nx (σ'.set i none) H',rt:=D.rt,bk:=fun σ' H'=>D.bk (σ'.set i none) H',ct:=fun σ' H'=>D.ct (σ'.set i none) H'} (σ.set i (some (.ref a))) (zi H a (yd a cls dd))
theorem zrp {i:Nat} {n:Str} (hN:X.N.Nodup) (hi:X.N[i]? =some n) (hlo:qh X.env.scope n) (hkd:X.env.kindOf n=some .local) (hg:Gl X x) (hm:X.mg x=some (.ref B)) (hs0: ∀e,zW ((X.suite e).wish z6) (b₀::suite) th) (hr:PHs X hs tr) (hd:(x==("__debug__" :Str))=false:=by decide)
  (hf:X.fn n=true∨X.env.scope.names.lookup n=some .local:=by first | exact .inl rfl | exact .inr rfl | assumption):
  PHs X (.ExceptHandler (some (.Name x np)) (some n) (b₀::suite) hp::hs) (ztm X.K B (tAs i th) tr):=by
 intro pins σ H s D a cls dd c h
 refine wpAny_handleBy_cons (codeAny_handlers_test (zc1 (X:=X.suite (.ref a)) (c.inv.suite (.ref a)) hg hm ?_ hd)) (by intro z;cases z)
 rcases h with ⟨hx,h⟩ | ⟨hx,h⟩
 ·refine (c.looks hx).here (codeAny_handlers_suite_as ?_)
  obtain ⟨Bs,a0,fly,back⟩:=c.fly
  refine zh6 none fly fun h6 fly6 sm6=>?_
  have I6:=back h6 fly6 sm6
  obtain ⟨_,_,_,oe,vs,T,oT,ts,t1,t2,t3,_⟩:=id fly6
  have I7:Inv X pins σ (zi H a (yd a cls dd)) {s with heap:=h6}:=I6.track c.free c.old c.loc c.cel c.pin ⟨⟨oe,vs,t1,t2.1,t3,t2.2.1⟩,⟨oe,t1⟩,fun h1 h2 ⟨o,vs,e,c,d⟩ k=>⟨o,vs,k o e,c,d⟩⟩
  refine zej (X:=X.suite (.ref a)) (I7.suite (.ref a)) hN hi hlo (v:= .ref a) rfl (fun s8 I8=>?_) hf
  refine wpAny_mono (hs0 (.ref a) pins _ _ _ _ (I8.wish z6) (h a c.free)) (fun f s9 q9=>?_) fun _ _ z=>z.elim
  have I9:SP X pins _ f s9:=SP.conv (fun σ' H' K=>Inv.unsuite c.inv.ok.hd K.unwish) q9
  cases f with
  | next=>obtain ⟨σ',H',J,q⟩:=I9;exact zga J hN hi hkd fun s' J'=>⟨_,_,J',q⟩
  | brk=>obtain ⟨σ',H',J,q⟩:=I9;exact zga J hN hi hkd fun s' J'=>⟨_,_,J',q⟩
  | cont=>obtain ⟨σ',H',J,q⟩:=I9;exact zga J hN hi hkd fun s' J'=>⟨_,_,J',q⟩
  | ret u=>obtain ⟨v,σ',H',J,r,q⟩:=I9;exact zga J hN hi hkd fun s' J'=>⟨_,_,_,J',r,q⟩
 ·exact (c.looks hx).here (hr pins σ H s D a cls dd c h)
theorem zo7:PHs X [] (fun _ _ _ _ _=>False):=fun _ _ _ _ _ _ _ _ _ h=>h.elim
theorem zm2 {h₀:ExceptHandler} {tb:XK→TS} (hst:X.stack=X.env::X.outer) (hfm:X.env.frame=some X.env.locals) (hex:X.ex=[])
  (hb: ∀pn σ₀ E,zW ((X.pinned pn).wish (zdz X pn σ₀ E)) b (fun D σ H=>σ=σ₀∧tb E D σ H)) (hh:PHs X (h₀::hs) tr):
  PS X (.Try b (h₀::hs) [] [] pos) (fun D σ H=>tb (fun cls dd H'=>tr cls dd D σ H') D σ H):=by
 intro pins s σ H D I h
 have J:Inv ((X.pinned (X.pn++pins)).wish (zdz X (X.pn++pins) σ fun cls dd H'=>tr cls dd D σ H')) [] σ H s:=I.inPn.wish _
 refine wpAny_Try_except (wpAny_mono (hb (X.pn++pins) σ _ [] s σ H D J ⟨rfl,h⟩) (fun f s1 q=>?_) fun e s1 q=>?_)
 ·have q':SP X pins D f s1:=SP.conv (fun σ' H' K=>Inv.unpin K.unwish) q
  cases f with
  | next=>exact wpAny_pure q'
  | brk=>exact q'
  | cont=>exact q'
  | ret u=>exact q'
 ·obtain ⟨pins2,H2,s2,I2,a,T,cls,a0,dd,H',rfl,os,bare,un,hok,na,nT,ha,hT,tr',q⟩:=q
  have I3:Inv (X.pinned (X.pn++pins)) pins2 σ H' s1:=I2.call' os un hok bare fun b z=>nomatch z
  have hfr:s1.heap.FunFrames X.base X.stack:=I3.stack
  obtain ⟨oe,vs,oT,ts,t1,t2,t3,t4,t6,t7,t8,t9⟩:=tr'
  have fly:yY (PySem.W.hideAll s1.heap (a::T::zM X.stack)) X.stack a cls a0 dd .none s1.heap:=
   ⟨fun b o z=>PySem.W.of_hideAll _ z,PySem.W.hideAll_none _ (.head _),PySem.W.funFrames_hide hfr fun e he b hb=> .tail _ (.tail _ (zhw e he b hb)),oe,vs,T,oT,ts,t1,t2,t3,t4,PySem.W.hideAll_none _ (.tail _ (.head _)),t6,t7,t8,t9⟩
  have hfrm:X.A.frames=some (X.env::X.outer):=by rw [←hst];exact I.ok.frames
  have back: ∀h',yY (PySem.W.hideAll s1.heap (a::T::zM X.stack)) X.stack a cls a0 dd .none h'→s1.heap.UpToSlots h'→Inv X pins σ H' {s1 with heap:=h'}:=fun h' f u=>by
   have keep: ∀b o,s1.heap.get? b=some o→b∉a::T::zM X.stack→h'.get? b=some o:=fun b o e n=>f.1 b o (PySem.W.hideAll_get _ e n)
   have slot: ∀b o,s1.heap.get? b=some o→b∈zM X.stack→∃sl,h'.get? b=some {o with slots:=sl}:=fun b o e hb=>by
    refine u b o e fun ws hv=>?_
    obtain ⟨_,o',ho',hn⟩:=hfr.mem hb
    rw [e] at ho'
    cases ho'
    exact hn ws hv
   have un':Un (zM X.stack) [] H2 H' s2.heap h':=zo5 un keep slot fun b hb=>by
    rcases List.mem_cons.mp hb with z | hb
    ·rw [z];exact .inr na
    ·rcases List.mem_cons.mp hb with z | hb
     ·rw [z];exact .inr nT
     ·exact .inl hb
   have hok':HOk X.prog X.w H' h':=zl1 hok keep fun b hb=>by
    rcases List.mem_cons.mp hb with z | hb
    ·rw [z];exact ha
    ·rcases List.mem_cons.mp hb with z | hb
     ·rw [z];exact hT
     ·exact I3.stkFree b hb
   have I4:Inv (X.pinned (X.pn++pins)) pins2 σ H' {s1 with heap:=h'}:=I2.call' os un' hok' bare fun b z=>nomatch z
   exact I4.unpin
  rw [hst] at fly
  refine zqm hfrm hfm fly fun h4 held4 sm4=>?_
  refine zh6 none held4 fun h5 fly5 sm5=>?_
  have sm45:=sm4.trans sm5
  have I5:Inv X pins σ H' {s1 with heap:=h5}:=back h5 (by rw [hst];exact fly5) sm45
  have ne2: ∀b o,s2.heap.get? b=some o→b≠a:=fun b o e z=>by rw [z,na] at e;cases e
  refine hh pins σ H' _ D a cls dd ⟨I5,⟨_,_,fly5,fun h' f u=>back h' (by rw [hst];exact f) (sm45.trans u)⟩,ha,?_,?_,?_,?_⟩ q
  ·cases z:X.s₀.heap.get? a with
   | none=>rfl
   | some o=>
    have U:=I2.base
    obtain ⟨o',q'⟩:=U.there a o z fun y=>by rw [show (X.pinned (X.pn++pins)).ex=X.ex from rfl,hex] at y;cases y
    rw [na] at q';cases q'
  ·intro z
   obtain ⟨m,⟨o,es,ep,e,_⟩,_⟩:=I2.loc
   exact ne2 _ o e z.symm
  ·intro y c e z
   obtain ⟨w',hw⟩:=I2.cell y c e
   obtain ⟨o,e1,_⟩:=hw
   exact ne2 _ o e1 z
  ·intro p hp z
   have e:=(I2.pin p (List.mem_append_left _ hp)).1
   exact ne2 _ _ e z
end
structure ExK (K:PySem.W.Frag) (C:Addr):Prop where
 it:(PySem.W.clsIn K C).isSome=true
 ga:PySem.W.findIn K (.ref C) "__getattribute__" =some (some (.builtin "BaseException.__getattribute__"))
 gn:PySem.W.findIn K (.ref C) "__getattr__" =some none
 gc:PySem.W.findIn K (.ref C) "__class__" =some (some (.builtin "object.__class__"))
 sb:PySem.W.subIn K (.ref C) (.type "BaseException")=some true
 so:PySem.W.subIn K (.ref C) (.type "object")=some true
 sw:PySem.W.subIn K (.ref C) (.type "ValueError")=some true
section
variable {K:PySem.W.Frag} {prog:Program} {w:World} {A:Around} {E:Value→Shared→Prop} {h:Heap} {g:Array GenState} {d:Drawn} {t:Nat} {os:OsState} {a C:Addr} {o:Obj}
theorem zrh {R:Result→Shared→Prop} (z:ExK K C) (X:K.In h) (hx:h.get? a=some o) (hc:o.cls= .ref C) (hq:R (.ok (.ret (.ref C))) ⟨h,g,d,t,os⟩):
  codeAny (model prog w) A (.call (.builtin "getset_descriptor.__get__") ⟨[.builtin "object.__class__",.ref a,.ref C],[]⟩) R ⟨h,g,d,t,os⟩:=by
 have hT5:(⟨h,g,d,t,os⟩:Shared).TypeIs (.builtin "object.__class__") "getset_descriptor" :=F.typeOf_object_class
 have so:PySem.W.subIn K (.ref C) (.type (".".intercalate ("object.__class__".cutAt '.').dropLast))=some true:=by rw [F.owner_object_class];exact z.so
 refine codeAny_call_builtin F.slot_gs_get.plain F.entry_gs_get (F.slot_gs_get.check _ _ _ _ _ _ _ _ hT5 (F.args_gs_get _ _ _) ?_)
 repeat (any_goals (first | assumption | (with_reducible refine wpAny_loadPart_at hx ?_;rw [hc]) | with_reducible refine (PySem.W.looks_subIn X so).at ?_ | wp_step))
 refine ⟨Code.quiet_builtin _ (by decide+kernel),codeAny_builtin F.entry_object_class ?_⟩
 repeat (any_goals (first | assumption | (with_reducible refine wpAny_loadPart_at hx ?_;rw [hc]) | wp_step))
theorem zmy {tk:Tok} {Q:Fin→Shared→Prop} (z:ExK K C) (X:K.In h) (hx:h.get? a=some o) (hc:o.cls= .ref C) (hq:Q (.done (.ret (.ref C))) ⟨h,g,d,t,os⟩):
  wpAny (model prog w) A (Builtin.«object.__getattribute__» ⟨[.ref a,.str "__class__" tk],[]⟩) Q E ⟨h,g,d,t,os⟩:=by
 have hT5:(⟨h,g,d,t,os⟩:Shared).TypeIs (.builtin "object.__class__") "getset_descriptor" :=F.typeOf_object_class
 have f5:=F.typeOf_object_class
 have f6:=F.slot_gs_get.lookup
 have f7:=F.slot_gs_set.lookup
 repeat (any_goals (first | assumption | (with_reducible refine wpAny_loadPart_at hx ?_;rw [hc]) | with_reducible refine (PySem.W.looks_findIn X z.gc).at ?_ | wp_step))
 refine zrh z X hx hc ?_
 repeat (any_goals (first | assumption | wp_step))
theorem zpe {tk:Tok} {R:Result→Shared→Prop} (z:ExK K C) (X:K.In h) (hx:h.get? a=some o) (hc:o.cls= .ref C) (hq:R (.ok (.ret (.ref C))) ⟨h,g,d,t,os⟩):
  codeAny (model prog w) A (.call (.builtin "BaseException.__getattribute__") ⟨[.ref a,.str "__class__" tk],[]⟩) R ⟨h,g,d,t,os⟩:=by
 have hp:plainId "BaseException.__getattribute__" =true:=by decide+kernel
 have hk:builtinKind "BaseException.__getattribute__" =some .slot:=by decide+kernel
 have hs:splitId "BaseException.__getattribute__" =some ("BaseException","__getattribute__"):=by decide+kernel
 refine codeAny_call_builtin hp F.entry_bexc_ga ?_
 have ha:=F.args_bexc_ga (.ref a) (.str "__class__" tk)
 have l:PySem.W.Looks (model prog w) h (typeOf (.ref a)) (.ref C):=by
  have q:=PySem.W.Looks.ld (M:=model prog w) (part:=none) hx
  rw [←hc]
  exact q.andThen .now
 have li:PySem.W.Looks (model prog w) h (isInstance (.ref a) (.type "BaseException")) true:=l.andThen (PySem.W.looks_subIn X z.sb)
 exact PySem.W.check_slot (i:="BaseException.__getattribute__") (owner:="BaseException") (n:="__getattribute__") (self:= .ref a) (rest:=[.str "__class__" tk]) (kw:=[]) hk hs li ha (zmy z X hx hc hq)
theorem zs7 {tk:Tok} {fill:Bool} {Q:Value→Shared→Prop} (z:ExK K C) (X:K.In h) (hx:h.get? a=some o) (hc:o.cls= .ref C) (hq:Q (.ref C) ⟨h,g,d,t,os⟩):
  wpAny (model prog w) A (getAttrBy (.ref a) (.str "__class__" tk) fill) Q E ⟨h,g,d,t,os⟩:=by
 have f3:bindSpecial (.builtin "BaseException.__getattribute__") (.ref a)=pure (.builtin "BaseException.__getattribute__",[.ref a]):=by kernel_rfl
 have hx2:(Value.builtin "BaseException.__getattribute__" ==Value.builtin "object.__getattribute__")=false:=by decide+kernel
 have hx1:(onTheHeap (Value.ref C) && Value.builtin "BaseException.__getattribute__" ==Value.builtin "object.__getattribute__")=false:=by rw [hx2];rfl
 repeat (any_goals (first | assumption | (with_reducible refine wpAny_loadPart_at hx ?_;rw [hc]) | with_reducible refine (PySem.W.looks_findIn X z.ga).at ?_ | with_reducible refine (PySem.W.looks_findIn X z.gn).at ?_ | wp_step))
 refine zpe z X hx hc ?_
 repeat (any_goals (first | assumption | wp_step))
theorem zp4 {Q:Option Value→Shared→Prop} (z:ExK K C) (X:K.In h) (hx:h.get? a=some o) (hc:o.cls= .ref C) (hq:Q (some (.ref C)) ⟨h,g,d,t+1,os⟩):wpAny (model prog w) A (getAttr? (.ref a) "__class__") Q E ⟨h,g,d,t,os⟩:=by
 unfold getAttr? getAttrBy?
 repeat (any_goals (first | assumption | with_reducible refine zs7 z X hx hc ?_ | wp_step))
theorem zl4 (z:ExK K C):PySem.W.KitX K (.ref a) (.ref C) (zrx a (.ref C) dd) where
 ty:=fun M h _ ⟨o,vs,hx,hc,_⟩=>by
  have q:=PySem.W.Looks.ld (M:=M) (part:=none) hx
  rw [←hc]
  exact q.andThen .now
 it:=fun M h X _=>by
  have e:=z.it
  unfold PySem.W.clsIn at e
  split at e
  ·rename_i c' d' cd' sl' ho
   intro A' Q' E' s' k q
   unfold isType loadHead
   exact wpAny_bind (wpAny_loadPart (k _ _ (X _ _ ho)) (wpAny_pure q))
  ·cases e
 ne:=fun h tp dd its n sl X htp=>by
  refine Bool.eq_false_iff.mpr fun q=>?_
  cases Value.ref.inj (beq_iff_eq.mp q)
  have e:=z.it
  unfold PySem.W.clsIn at e
  split at e
  ·rename_i c' d' cd' sl' ho
   cases (X _ _ ho).symm.trans htp
  ·cases e
 ca:=fun {_ _ _ _ _ s} X ⟨o,vs,hx,hc,_⟩ k=>by
  obtain ⟨h,g,d,t,os⟩:=s
  exact zp4 z X hx hc k
theorem zfb {X:Cx} {pins:List (Addr×Obj)} {σ:St} {H:Hp} {s:Shared} {Q:Value→Shared→Prop} {c:Value} {b:Bool} (z:ExK X.K C) (I:Inv X pins σ H s) (ha:H a=some (yd a (.ref C) dd)) (e:PySem.W.kitOne X.K (.ref C) c=some b) (hq: ∀tk,Q (.bool b) {s with toks:=tk}):
  wpAny (model X.prog X.w) A (call (.builtin "isinstance") [.ref a,c]) Q E s:=by
 obtain ⟨p,_⟩:=(show ObjOk X.prog X.w H s.heap a (yd a (.ref C) dd) from I.hok a _ ha)
 exact PySem.W.kia_one (zl4 z) I.kIn p e (fun z=>nomatch z) hq
end
def zep:List Value→Bool
 | .ref _::r=>zep r
 | l=>l==qw
structure ExN (K:PySem.W.Frag) (C:Addr):Prop extends ExK K C where
 gm:PySem.W.findIn K (.ref C) "name" =some none
 hd:(PySem.W.clsIn K C).any (fun cd=>cd.hasDict && zep cd.mro)=true
 sa:PySem.W.findIn K (.ref C) "__setattr__" =some (some (.builtin "object.__setattr__"))
section
variable {K:PySem.W.Frag} {prog:Program} {w:World} {A:Around} {E:Value→Shared→Prop} {h:Heap} {g:Array GenState} {d:Drawn} {t:Nat} {os:OsState} {a C D:Addr} {vs:Array Value} {sl:Array (Option Value)} {m:Str→Option Value} {v:Value}
theorem zma {tk:Tok} {Q:Fin→Shared→Prop} (z:ExN K C) (X:K.In h) (hx:h.get? a=some ⟨.ref C,some D,.fields vs,sl⟩) (hn:h.Ns D m) (hv:m "name" =some v) (hq:Q (.done (.ret v)) ⟨h,g,d,t,os⟩):
  wpAny (model prog w) A (Builtin.«object.__getattribute__» ⟨[.ref a,.str "name" tk],[]⟩) Q E ⟨h,g,d,t,os⟩:=by
 obtain ⟨cd,hc,hd⟩:=PySem.W.any_some z.hd
 rw [Bool.and_eq_true] at hd
 have hd1:=hd.1
 have lc:=PySem.W.looks_clsIn (M:=model prog w) X hc
 repeat (any_goals (first | assumption | with_reducible refine wpAny_loadPart_at hx ?_ | with_reducible refine (PySem.W.looks_findIn X z.gm).at ?_ | with_reducible refine lc.at ?_ | (with_reducible refine wpAny_nsGet (s:=⟨h,g,d,t,os⟩) hn ?_;rw [hv]) | wp_step))
theorem zos {tk:Tok} {R:Result→Shared→Prop} (z:ExN K C) (X:K.In h) (hx:h.get? a=some ⟨.ref C,some D,.fields vs,sl⟩) (hn:h.Ns D m) (hv:m "name" =some v) (hq:R (.ok (.ret v)) ⟨h,g,d,t,os⟩):
  codeAny (model prog w) A (.call (.builtin "BaseException.__getattribute__") ⟨[.ref a,.str "name" tk],[]⟩) R ⟨h,g,d,t,os⟩:=by
 have hp:plainId "BaseException.__getattribute__" =true:=by decide+kernel
 have hk:builtinKind "BaseException.__getattribute__" =some .slot:=by decide+kernel
 have hs:splitId "BaseException.__getattribute__" =some ("BaseException","__getattribute__"):=by decide+kernel
 refine codeAny_call_builtin hp F.entry_bexc_ga ?_
 have ha:=F.args_bexc_ga (.ref a) (.str "name" tk)
 have l:PySem.W.Looks (model prog w) h (typeOf (.ref a)) (.ref C):=(PySem.W.Looks.ld (M:=model prog w) (part:=none) hx).andThen .now
 have li:PySem.W.Looks (model prog w) h (isInstance (.ref a) (.type "BaseException")) true:=l.andThen (PySem.W.looks_subIn X z.sb)
 exact PySem.W.check_slot (i:="BaseException.__getattribute__") (owner:="BaseException") (n:="__getattribute__") (self:= .ref a) (rest:=[.str "name" tk]) (kw:=[]) hk hs li ha (zma z X hx hn hv hq)
theorem zo4 {expr:Bool} {Q:Value→Shared→Prop} (z:ExN K C) (X:K.In h) (hx:h.get? a=some ⟨.ref C,some D,.fields vs,sl⟩) (hn:h.Ns D m) (hv:m "name" =some v) (hh:handedOut v=pure v) (hq:Q v ⟨h,g,d,t+1,os⟩):
  wpAny (model prog w) A (getAttr (.ref a) "name" expr) Q E ⟨h,g,d,t,os⟩:=by
 have f3:bindSpecial (.builtin "BaseException.__getattribute__") (.ref a)=pure (.builtin "BaseException.__getattribute__",[.ref a]):=by kernel_rfl
 have hx0:(expr && onTheHeap (Value.builtin "BaseException.__getattribute__"))=false:=by cases expr <;> rfl
 have hx2:(Value.builtin "BaseException.__getattribute__" ==Value.builtin "object.__getattribute__")=false:=by decide+kernel
 have hx1:(onTheHeap (Value.ref C) && Value.builtin "BaseException.__getattribute__" ==Value.builtin "object.__getattribute__")=false:=by rw [hx2];rfl
 unfold getAttr
 repeat (any_goals (first | assumption | with_reducible refine wpAny_loadPart_at hx ?_ | with_reducible refine (PySem.W.looks_findIn X z.ga).at ?_ | with_reducible refine (PySem.W.looks_findIn X z.gn).at ?_ | wp_step))
 refine zos z X hx hn hv ?_
 repeat (any_goals (first | assumption | wp_step))
end
theorem zoe (self:Value):refuseLoop self "__setattr__" qw=pure ():=by kernel_rfl
theorem ze7 (self:Value): ∀{l:List Value},zep l=true→refuseLoop self "__setattr__" l=pure ()
 | [],e=>by simp [zep] at e
 | x::r,e=>by
  cases x with
  | ref c=>rw [refuseLoop_ref];exact ze7 self (l:=r) e
  | _=>rw [show (_::r:List Value)=qw from beq_iff_eq.mp e];exact zoe self
section
variable {K:PySem.W.Frag} {prog:Program} {w:World} {A:Around} {E:Value→Shared→Prop} {h:Heap} {g:Array GenState} {d:Drawn} {t:Nat} {os:OsState} {a C D:Addr} {vs:Array Value} {sl:Array (Option Value)} {m:Str→Option Value} {v:Value}
theorem zmz {tk:Tok} {Q:Fin→Shared→Prop} (z:ExN K C) (X:K.In h) (hx:h.get? a=some ⟨.ref C,none,.fields vs,sl⟩)
  (hq: ∀h' tk',h'.get? a=some ⟨.ref C,some h.objs.size,.fields vs,sl⟩→h'.Ns1 h.objs.size (fun y=>if y="name" then some v else none)→(∀b o,b≠a→h.get? b=some o→h'.get? b=some o)→Q (.done (.ret .none)) ⟨h',g,d,tk',os⟩):
  wpAny (model prog w) A (Builtin.«object.__setattr__» ⟨[.ref a,.str "name" tk,v],[]⟩) Q E ⟨h,g,d,t,os⟩:=by
 obtain ⟨cd,hc,hd⟩:=PySem.W.any_some z.hd
 rw [Bool.and_eq_true] at hd
 have hd1:=hd.1
 have hpass:=ze7 (.ref a) hd.2
 have lc:=PySem.W.looks_clsIn (M:=model prog w) X hc
 have lm:PySem.W.Looks (model prog w) h (mroOf (.ref C)) cd.mro:=lc.andThen .now
 have hx1:(h.push {cls:= .type "dict",data:= .dict #[]}).get? a=some ⟨.ref C,none,.fields vs,sl⟩:=Heap.get?_push_of_some _ hx
 have hxs:a≠h.objs.size:=Nat.ne_of_lt (Heap.lt_size hx)
 have hgd:((h.push {cls:= .type "dict",data:= .dict #[]}).update a fun o=>{cls:=o.cls,dict:=some h.objs.size,data:=o.data,slots:=o.slots}).get? h.objs.size=some {cls:= .type "dict",data:= .dict #[]}:=(Heap.get?_update_ne _ _ _ _ hxs.symm).trans (Heap.get?_push_at rfl rfl)
 have hnd:((h.push {cls:= .type "dict",data:= .dict #[]}).update a fun o=>{cls:=o.cls,dict:=some h.objs.size,data:=o.data,slots:=o.slots}).Ns h.objs.size (fun _=>none):=⟨_,#[],_,hgd,rfl,fun e he=>absurd he (by simp),fun _=>rfl⟩
 have hxa:((h.push {cls:= .type "dict",data:= .dict #[]}).update a fun o=>{cls:=o.cls,dict:=some h.objs.size,data:=o.data,slots:=o.slots}).get? a=some ⟨.ref C,some h.objs.size,.fields vs,sl⟩:=Heap.get?_update_self _ hx1 rfl
 unfold Builtin.«object.__setattr__»
 repeat (first | rw [refuse_eq] | (rw [hpass]) | with_reducible refine wpAny_loadPart_at hx ?_ | with_reducible refine lm.at ?_ | with_reducible refine (PySem.W.looks_findIn X z.gm).at ?_ | with_reducible refine lc.at ?_ | with_reducible refine wpAny_nsSet1 (s:=⟨_,g,d,t,os⟩) (Heap.Ns1.of_empty hnd) fun h' hn' hs=>?_ | wp_step)
 obtain ⟨oD,esD,epD,hoD,hdD,hcD⟩:=hn'.count (Within.cons "name" v Within.nil)
 have hpl:oD.data.pastItsLine=none:=by rw [hdD];exact pastItsLine_dict (Nat.le_trans hcD (by rw [List.length_cons,List.length_nil,sizeLine_eq];omega))
 refine wpAny_loadPart_at hoD ?_
 rw [hpl]
 refine wpAny_pure (wpAny_pure ?_)
 exact hq h' _ ((hs.2 a hxs).trans hxa) hn' fun b o hb e=>(hs.2 b (Nat.ne_of_lt (Heap.lt_size e))).trans ((Heap.get?_update_ne _ _ _ _ hb).trans (Heap.get?_push_of_some _ e))
theorem zpz {Q:Unit→Shared→Prop} (z:ExN K C) (X:K.In h) (hx:h.get? a=some ⟨.ref C,none,.fields vs,sl⟩)
  (hq: ∀h' tk',h'.get? a=some ⟨.ref C,some h.objs.size,.fields vs,sl⟩→h'.Ns1 h.objs.size (fun y=>if y="name" then some v else none)→(∀b o,b≠a→h.get? b=some o→h'.get? b=some o)→Q () ⟨h',g,d,tk',os⟩):
  wpAny (model prog w) A (setAttr (.ref a) "name" v) Q E ⟨h,g,d,t,os⟩:=by
 have I:PySem.W.InstAt h a ⟨.ref C,none,.fields vs,sl⟩ C none:=⟨hx,rfl,rfl,trivial⟩
 have SF:=PySem.F.store_object
 have l:PySem.W.Looks (model prog w) h (typeOf (.ref a)) (.ref C):=(PySem.W.Looks.ld (M:=model prog w) (part:=none) hx).andThen .now
 have li:PySem.W.Looks (model prog w) h (isInstance (.ref a) (.type "object")) true:=l.andThen (PySem.W.looks_subIn X z.so)
 refine PySem.W.set_plain (s:=⟨h,g,d,t,os⟩) X I z.sa (codeAny_call_builtin SF.slot.plain SF.entry (PySem.W.check_slot (i:="object.__setattr__") (owner:="object") (n:="__setattr__") (self:= .ref a) (rest:=[.str "name" t,v]) (kw:=[]) SF.kind SF.split li (SF.args (.ref a) (.str "name" t) v) ?_))
 exact zmz z X hx hq
end
section
variable {K:PySem.W.Frag} {prog:Program} {w:World} {A:Around} {E:Value→Shared→Prop} {h:Heap} {g:Array GenState} {d:Drawn} {t:Nat} {os:OsState} {a C D:Addr} {vs:Array Value} {sl:Array (Option Value)} {m:Str→Option Value} {v x:Value} {dd:Option Addr}
theorem zqp (X:K.In h) (e:(PySem.W.clsIn K C).isSome=true): ∃c d cd sl,h.get? C=some ⟨c,d,.cls cd,sl⟩:=by
 unfold PySem.W.clsIn at e
 split at e
 ·rename_i c' d' cd' sl' ho
  exact ⟨c',d',cd',sl',X _ _ ho⟩
 ·cases e
theorem zlr {M:Model} {Q:Unit→Shared→Prop} (si:(PySem.W.clsIn K C).isSome=true) (sv:PySem.W.subIn K (.ref C) (.type "ValueError")=some true) (X:K.In h) (hx:h.get? a=some ⟨.ref C,dd,.fields vs,sl⟩) (hq:Q () ⟨h,g,d,t,os⟩):wpAny M A (checkBuiltinCall "ValueError.__init__" ⟨[.ref a,x],[]⟩) Q E ⟨h,g,d,t,os⟩:=by
 have FB:=PySem.F.excBase_ValueError
 have hshort:=FB.noStar
 have ls:=PySem.W.looks_subIn (M:=M) X sv
 obtain ⟨c1,d1,cd1,sl1,hC⟩:=zqp X si
 simp only [checkBuiltinCall,FB.initKind,FB.initSplit,FB.initRow]
 repeat (first | with_reducible refine wpAny_loadPart_at hx ?_ | with_reducible refine wpAny_loadPart_at hC ?_ | with_reducible refine ls.at ?_ | wp_step)
 exact hq
theorem zob {R:Result→Shared→Prop} (si:(PySem.W.clsIn K C).isSome=true) (sv:PySem.W.subIn K (.ref C) (.type "ValueError")=some true) (X:K.In h) (hx:h.get? a=some ⟨.ref C,dd,.fields vs,sl⟩) {t0:Addr} (hv:vs[0]? =some (.ref t0))
  (hq: ∀h',h'.get? a=some ⟨.ref C,dd,.fields (vs.setIfInBounds 0 (.ref h.objs.size)),sl⟩→(∀b o,b≠a→h.get? b=some o→h'.get? b=some o)→R (.ok (.ret .none)) ⟨h',g,d,t,os⟩):
  codeAny (model prog w) A (.call (.builtin "ValueError.__init__") ⟨[.ref a,x],[]⟩) R ⟨h,g,d,t,os⟩:=by
 have FB:=PySem.F.excBase_ValueError
 refine codeAny_call_builtin FB.init.plain FB.initEntry (zlr si sv X hx ?_)
 wp_walk
 rw [hv]
 have hx1:=Heap.get?_push_of_some (h:=h) {cls:= .type "tuple",data:= .seq #[x]} hx
 have hsz:0 < vs.size:=(Array.getElem?_eq_some_iff.mp hv).1
 refine wpAny_pure (wpAny_bind (wpAny_setField hx1 rfl hsz ?_))
 refine wpAny_letGo (wpAny_pure (hq _ ?_ fun b o hb e=>?_))
 ·exact Heap.get?_update_self _ hx1 rfl
 ·exact (Heap.get?_update_other _ _ (Ne.symm hb)).trans (Heap.get?_push_of_some _ e)
end
section
variable {X:Cx} {pins:List (Addr×Obj)} {σ:St} {H:Hp} {s:Shared} {a:Addr} {y v:V} {u r:Value} {o:Option V} {A:Around} {E:Value→Shared→Prop}
theorem Inv.big (I:Inv X pins σ H s):sysModules < s.heap.objs.size:=by
 have h:mainGlobals < s.heap.objs.size:=(I.mod.glob.keeps I.bk).lt
 exact Nat.lt_trans (by decide) h
end
theorem zmb {P:Program} {w:World} {H:Hp} (h:Heap) (hb:sysModules < h.objs.size):ObjOk P w H (h.push {cls:= .type "dict",data:= .dict #[]}) h.objs.size (.dT []):=
 ⟨Nat.zero_le _,beq_eq_false_iff_ne.mpr (Ne.symm (Nat.ne_of_lt hb)),[],.nil,_,#[],0,Heap.get?_push_size _ rfl,⟨rfl,rfl,rfl⟩,rfl,rfl,List.nodup_nil,rfl⟩
def zsl:TE:=fun _ H Q=> ∀p,H p=none→Q (.ref p) (zi H p (.dT []))
section
variable {X:Cx} {pos:Pos}
theorem zm0:PE X (.Dict [] [] pos) zsl:=fun pins s σ H Q I h=>
 wpAny_Dict_empty ⟨.ref s.heap.objs.size,_,I.laid (a:=s.heap.objs.size) (o:= .dT []) (t':=s.toks) (fun _ _ q=>Heap.get?_push_of_some _ q) (Nat.le_refl _) (zmb s.heap I.big),rfl,h _ (I.hok.fresh (Nat.le_refl _))⟩
end
def Its (z:Str):It:=⟨fun i _=>i < z.length,fun i H x H'=>H'=H∧∃c,z.cps[i]? =some c∧x= .str ⟨#[c]⟩,fun i _=>z.length≤i⟩
theorem zj4 {P:Program} {w:World} {K:PySem.W.Frag} {tg:Expr} (it:Addr) (z:Str) (t:Tok):Turn P w K tg (Its z) [it] it (fun i h=>h.IsStrIter it "str_ascii_iterator" z t i) where
 mem:=by simp
 obj:=fun i h st b hb=>by
  have e:b=it:=by simpa using hb
  subst e
  obtain ⟨o,e,c,d⟩:=st
  exact ⟨o,e,fun v y=>by rw [d] at y;cases y⟩
 keep:=fun i h h' st k=>by
  obtain ⟨o,e,r⟩:=st
  exact ⟨o,k it (by simp) o e,r⟩
 item:=by
  intro X hP hw hK hc i pins s σ H E I hf st hg
  subst hP hw hK
  have hi:i < z.cps.size:=hg
  obtain ⟨f0,f1,f2,f3,f4,f5⟩:=hf it (by simp)
  refine wpAny_pyNext_ascii_item st (c:=z.cps[i]) (by simp [hi]) fun h' st' sb=>?_
  have I1:Inv X pins σ H {s with heap:=h',toks:=s.toks+1}:=I.turned (fun b o hb e=>(sb.2 b hb).trans e) f0 f1 f3 f4 f5
  obtain ⟨o,e,c,d⟩:=id st'
  exact ⟨_,rfl,zl8 (s:={s with heap:=h',toks:=s.toks+1}) e c d (by decide) ⟨.str ⟨#[z.cps[i]]⟩,H,I1,⟨_,rfl⟩,⟨rfl,_,by simp [hi],rfl⟩,st',fun b hb=>(hf b hb).1⟩⟩
 done:=by
  intro X hP hw hK hc i pins s σ H E I hf st hg
  subst hP hw hK
  have hi:z.cps.size≤i:=hg
  obtain ⟨f0,f1,f2,f3,f4,f5⟩:=hf it (by simp)
  exact wpAny_pyNext_ascii_end (I.ok.hd hc) st (by simp [hi]) fun h' eb=>⟨rfl,I.turned (t':=s.toks) (fun b o hb e=>eb b o hb e) f0 f1 f3 f4 f5⟩
 self:=fun _ _ _ _ _ st h=>wpAny_pyIter_striter_ascii st h
theorem zj7 {P:Program} {w:World} {K:PySem.W.Frag} {tg:Expr} (it:Addr) (z:Str) (t:Tok):Turn P w K tg (Its z) [it] it (fun i h=>h.IsStrIter it "str_iterator" z t i) where
 mem:=by simp
 obj:=fun i h st b hb=>by
  have e:b=it:=by simpa using hb
  subst e
  obtain ⟨o,e,c,d⟩:=st
  exact ⟨o,e,fun v y=>by rw [d] at y;cases y⟩
 keep:=fun i h h' st k=>by
  obtain ⟨o,e,r⟩:=st
  exact ⟨o,k it (by simp) o e,r⟩
 item:=by
  intro X hP hw hK hc i pins s σ H E I hf st hg
  subst hP hw hK
  have hi:i < z.cps.size:=hg
  obtain ⟨f0,f1,f2,f3,f4,f5⟩:=hf it (by simp)
  refine wpAny_pyNext_wide_item st (c:=z.cps[i]) (by simp [hi]) fun h' st' sb=>?_
  have I1:Inv X pins σ H {s with heap:=h',toks:=s.toks+1}:=I.turned (fun b o hb e=>(sb.2 b hb).trans e) f0 f1 f3 f4 f5
  obtain ⟨o,e,c,d⟩:=id st'
  exact ⟨_,rfl,zl8 (s:={s with heap:=h',toks:=s.toks+1}) e c d (by decide) ⟨.str ⟨#[z.cps[i]]⟩,H,I1,⟨_,rfl⟩,⟨rfl,_,by simp [hi],rfl⟩,st',fun b hb=>(hf b hb).1⟩⟩
 done:=by
  intro X hP hw hK hc i pins s σ H E I hf st hg
  subst hP hw hK
  have hi:z.cps.size≤i:=hg
  obtain ⟨f0,f1,f2,f3,f4,f5⟩:=hf it (by simp)
  exact wpAny_pyNext_wide_end (I.ok.hd hc) st (by simp [hi]) fun h' eb=>⟨rfl,I.turned (t':=s.toks) (fun b o hb e=>eb b o hb e) f0 f1 f3 f4 f5⟩
 self:=fun _ _ _ _ _ st h=>wpAny_pyIter_striter_wide st h
section
variable {X:Cx} {tg:Expr}
def iStr (tl:TE):TI:=fun σ H R=>tl σ H fun x H1=> ∃z,x= .str z∧R (Its z) H1
theorem zqn {l:Expr} {tl:TE} (hl:PE X l tl):PI X tg l (iStr tl):=by
 intro pins s σ H R I h
 refine zk (hl pins s σ H _ I h) fun v s1 ⟨x,H1,I1,r1,q1⟩=>?_
 obtain ⟨z,e,q⟩:=q1
 subst e
 obtain ⟨t,rfl⟩:=r1
 have fp: ∀b∈[s1.heap.objs.size],FpOk X pins H1 b:=fun b hb=>by
  have e:b=s1.heap.objs.size:=by simpa using hb
  subst e
  exact I1.fpOk (Nat.le_refl _) (I1.hok.fresh (Nat.le_refl _))
 cases ha:z.cps.all (· < 128)
 ·exact wpAny_pyIter_wide ha ⟨s1.heap.objs.size,[s1.heap.objs.size],_,_,H1,rfl,I1.kept (t':=s1.toks) fun b o e=>Heap.get?_push_of_some _ e,zj7 _ z t,⟨_,Heap.get?_push_size _ rfl,rfl,rfl⟩,fp,q⟩
 ·exact wpAny_pyIter_ascii ha ⟨s1.heap.objs.size,[s1.heap.objs.size],_,_,H1,rfl,I1.kept (t':=s1.toks) fun b o e=>Heap.get?_push_of_some _ e,zj4 _ z t,⟨_,Heap.get?_push_size _ rfl,rfl,rfl⟩,fp,q⟩
def rSlS:V→Option Int→Option Int→Hp→VK→Prop:=fun x lo hi H Q=> ∃z,x= .str z∧z.length≤sizeLine∧Q (.str (Txt.slice z lo hi)) H
theorem zll {v:Value} {o:Option Int} (h:IsPart v o): ∃p:Option (Int×Tok),v=partValue p∧p.map (·.1)=o:=by
 cases h with
 | none=>exact ⟨none,rfl,rfl⟩
 | int i t=>exact ⟨some (i,t),rfl,rfl⟩
theorem zsh:SlR X rSlS:=by
 intro pins s σ H x v vl vu lo hi sl Q I rx hs pl pu h
 obtain ⟨z,rfl,hz,q⟩:=h
 obtain ⟨t,rfl⟩:=rx
 obtain ⟨p,rfl,rfl⟩:=zll pl
 obtain ⟨p',rfl,rfl⟩:=zll pu
 refine ⟨"str",_,slot_str_getitem.lookup,typeIs_str _ _ _,?_⟩
 refine wpAny_getItem_str_slice (l:=p) (u:=p') (st:=none) hs rfl ?_
 exact post_val_or_str ⟨Nat.le_trans (Txt.slice_le z _ _) hz,fun t' k=>⟨.str (Txt.slice z (p.map (·.1)) (p'.map (·.1))),H,I.tok k,⟨t',rfl⟩,q⟩⟩
end
theorem zit (z:Str) (c:Nat):(!(Builtin.Str.occurrences z ⟨#[c]⟩ 0 z.length 1).isEmpty)=decide (c∈z.cps.toList):=StrLaws.found_one z c
end L2
namespace L3
open PySem L2
inductive V3 where
 | non | bl (b:Bool) | int (i:Int) | str (x:Str) | ty (n:String)
 | tup (xs:List V3) | lst (xs:List V3) | scr (ns:List Int)
 | dK (kvs:List (yt×V3)) | dT (kvs:List (MK×V3))
 | obj (c:Str) (fs:List (Str×V3)) | cls (c:Str) | fn (n:Str) (env:List V3)
 | loc (n:Nat)
inductive C3 where
 | lst (xs:List V3) | dK (kvs:List (yt×V3)) | dT (kvs:List (MK×V3)) | ins (c:Str) (fs:List (Str×V3)) | dead
inductive Vl where
 | v (x:V3) | m (c:C3)
structure X3 where
 c:Str
 nm:Option V3
abbrev S3:=List (Option Vl)
abbrev H3:=List C3
inductive Res (α:Type) where
 | ok (r:α) (h:H3) | ex (x:X3) (h:H3) | no
abbrev E3:=S3→H3→Res Vl
def C3.fz:C3→Option V3
 | .lst xs=>some (.lst xs)
 | .dK kvs=>some (.dK kvs)
 | .dT kvs=>some (.dT kvs)
 | .ins c fs=>some (.obj c fs)
 | .dead=>none
def Vl.fz:Vl→Option V3
 | .v x=>some x
 | .m c=>c.fz
def Res.bind {α β:Type} (r:Res α) (k:α→H3→Res β):Res β:=match r with
 | .ok r h=>k r h
 | .ex x h=> .ex x h
 | .no=> .no
structure Kx where
 K:PySem.W.Frag
 cl:Str→Option Addr
def KnL (K:PySem.W.Frag) (a:Addr) (ns:List Int):Prop:=
 ∃(o:Obj) (its:Array Value) (n:Nat),K.lookup a=some o∧o.cls= .type "list" ∧o.dict=none∧o.data= .seq its n∧its.size≤sizeLine∧Vals (ns.map V.int) its.toList
def XD (β:List (Option Addr)) (O:Addr→Prop) (H:Hp) (dd:Option Addr) (fs:List V3):Prop:=match dd with
 | none=>fs=[]
 | some d=> ∃z:Str,fs=[.str z]∧H d=some (.xd [(("name" :Str),V.str z)])∧some d∉β∧¬O d
theorem XD.imp {β β':List (Option Addr)} {O O':Addr→Prop} {H H':Hp} {dd:Option Addr} {fs:List V3} (x:XD β O H dd fs) (k: ∀d o,H d=some o→some d∉β→¬O d→H' d=some o∧some d∉β'∧¬O' d):XD β' O' H' dd fs:=by
 cases dd with
 | none=>exact x
 | some d=>
  obtain ⟨z,e,h,n,q⟩:=x
  obtain ⟨h1,n1,q1⟩:=k d _ h n q
  exact ⟨z,e,h1,n1,q1⟩
mutual
inductive Rep (κ:Kx) (β:List (Option Addr)) (O:Addr→Prop) (H:Hp):V3→V→Prop
 | non:Rep κ β O H .non .non
 | bl (b:Bool):Rep κ β O H (.bl b) (.bl b)
 | int (i:Int):Rep κ β O H (.int i) (.int i)
 | str (x:Str):Rep κ β O H (.str x) (.str x)
 | ty (n:String):Rep κ β O H (.ty n) (.ty n)
 | tup {xs:List V3} {ys:List V} {a:Addr}:H a=some (.tup ys)→some a∉β→¬O a→Reps κ β O H xs ys→Rep κ β O H (.tup xs) (.ref a)
 | lst {xs:List V3} {ys:List V} {a:Addr}:H a=some (.lst ys)→some a∉β→¬O a→Reps κ β O H xs ys→Rep κ β O H (.lst xs) (.ref a)
 | scr {ns:List Int} {a:Addr} {o:Obj}:H a=some (.frz o (.lst (ns.map V.int)))→some a∉β→¬O a→Rep κ β O H (.scr ns) (.ref a)
 | scrK {ns:List Int} {a:Addr}:KnL κ.K a ns→Rep κ β O H (.scr ns) (.ref a)
 | dK {kvs:List (yt×V3)} {ws:List (yt×V)} {a:Addr}:H a=some (.dK ws)→some a∉β→¬O a→RepP κ β O H kvs ws→Rep κ β O H (.dK kvs) (.ref a)
 | dT {kvs:List (MK×V3)} {ws:List (MK×V)} {a:Addr}:H a=some (.dT ws)→some a∉β→¬O a→RepP κ β O H kvs ws→Rep κ β O H (.dT kvs) (.ref a)
 | obj {c:Str} {C:Addr} {fs:List (Str×V3)} {gs:List (Str×V)} {a dx:Addr}:κ.cl c=some C→H a=some (.ins C dx gs)→some a∉β→¬O a→RepP κ β O H fs gs→Rep κ β O H (.obj c fs) (.ref a)
 | cls {c:Str} {C:Addr}:κ.cl c=some C→Rep κ β O H (.cls c) (.ref C)
 | exc {c:Str} {C a:Addr} {dd:Option Addr} {fs:List V3}:κ.cl c=some C→H a=some (yd a (.ref C) dd)→some a∉β→¬O a→XD β O H dd fs→Rep κ β O H (.fn c fs) (.ref a)
 | loc {n:Nat} {v:V}:n < β.length→(∀a,β[n]? =some (some a)→v= .ref a)→Rep κ β O H (.loc n) v
inductive Reps (κ:Kx) (β:List (Option Addr)) (O:Addr→Prop) (H:Hp):List V3→List V→Prop
 | nil:Reps κ β O H [] []
 | cons {x:V3} {y:V} {xs:List V3} {ys:List V}:Rep κ β O H x y→Reps κ β O H xs ys→Reps κ β O H (x::xs) (y::ys)
inductive RepP (κ:Kx) (β:List (Option Addr)) (O:Addr→Prop) (H:Hp):{α:Type}→List (α×V3)→List (α×V)→Prop
 | nil {α:Type}:RepP κ β O H (α:=α) [] []
 | cons {α:Type} {k:α} {x:V3} {y:V} {xs:List (α×V3)} {ys:List (α×V)}:Rep κ β O H x y→RepP κ β O H xs ys→RepP κ β O H ((k,x)::xs) ((k,y)::ys)
end
structure Ext (M:Addr→Prop) (β:List (Option Addr)) (H:Hp) (β':List (Option Addr)) (H':Hp):Prop where
 keep: ∀a o,H a=some o→some a∉β→¬M a→H' a=some o∧some a∉β'
 len:β.length≤β'.length
 bet: ∀i a,i < β.length→β'[i]? =some (some a)→β[i]? =some (some a)
 there: ∀a o,H a=some o→∃o',H' a=some o'
 nwb: ∀(i:Nat) a,β.length≤i→β'[i]? =some (some a)→H a=none
theorem nwb0 {β:List (Option Addr)} {H:Hp}: ∀(i:Nat) a,β.length≤i→β[i]? =some (some a)→H a=none:=fun i a h e=>by
 have:=(List.getElem?_eq_some_iff.mp e).1;omega
abbrev No:Addr→Prop:=fun _=>False
theorem Ext.refl {M:Addr→Prop} {β:List (Option Addr)} {H:Hp}:Ext M β H β H:=⟨fun _ _ h n _=>⟨h,n⟩,Nat.le_refl _,fun _ _ _ h=>h,fun _ o h=>⟨o,h⟩,nwb0⟩
theorem zgz {β β1 β2:List (Option Addr)} {H H1:Hp} (t: ∀a o,H a=some o→∃o',H1 a=some o') (bet: ∀i a,i < β1.length→β2[i]? =some (some a)→β1[i]? =some (some a)) (n1: ∀(i:Nat) a,β.length≤i→β1[i]? =some (some a)→H a=none)
  (n2: ∀(i:Nat) a,β1.length≤i→β2[i]? =some (some a)→H1 a=none): ∀(i:Nat) a,β.length≤i→β2[i]? =some (some a)→H a=none:=fun i a hi h=>by
 by_cases h1:i < β1.length
 ·exact n1 i a hi (bet i a h1 h)
 ·cases w:H a with
  | none=>rfl
  | some o=>
   obtain ⟨o',z⟩:=t a o w
   rw [n2 i a (by omega) h] at z;cases z
theorem Ext.trans0 {β β1 β2:List (Option Addr)} {H H1 H2:Hp} (a:Ext No β H β1 H1) (b:Ext No β1 H1 β2 H2):Ext No β H β2 H2:=
 ⟨fun x o h n m=>let ⟨h1,n1⟩:=a.keep x o h n m;b.keep x o h1 n1 m,Nat.le_trans a.len b.len,fun i x hi h=>a.bet i x hi (b.bet i x (Nat.lt_of_lt_of_le hi a.len) h),fun x o h=>let ⟨o1,h1⟩:=a.there x o h;b.there x o1 h1,zgz a.there (fun i x hi h=>b.bet i x hi h) a.nwb b.nwb⟩
section
variable {κ:Kx} {β β':List (Option Addr)} {O O':Addr→Prop} {H H':Hp} {M:Addr→Prop}
mutual
theorem Rep.ext (e:Ext M β H β' H') (hM: ∀a,M a→O a) (hO: ∀a o,H a=some o→¬O a→¬O' a): ∀{x:V3} {y:V},Rep κ β O H x y→Rep κ β' O' H' x y
 | _,_,.non=> .non
 | _,_,.bl b=> .bl b
 | _,_,.int i=> .int i
 | _,_,.str x=> .str x
 | _,_,.ty n=> .ty n
 | _,_,.tup h n o r=>let ⟨h1,n1⟩:=e.keep _ _ h n fun m=>o (hM _ m);.tup h1 n1 (hO _ _ h o) (Reps.ext e hM hO r)
 | _,_,.lst h n o r=>let ⟨h1,n1⟩:=e.keep _ _ h n fun m=>o (hM _ m);.lst h1 n1 (hO _ _ h o) (Reps.ext e hM hO r)
 | _,_,.scr h n o=>let ⟨h1,n1⟩:=e.keep _ _ h n fun m=>o (hM _ m);.scr h1 n1 (hO _ _ h o)
 | _,_,.scrK h=> .scrK h
 | _,_,.dK h n o r=>let ⟨h1,n1⟩:=e.keep _ _ h n fun m=>o (hM _ m);.dK h1 n1 (hO _ _ h o) (RepP.ext e hM hO r)
 | _,_,.dT h n o r=>let ⟨h1,n1⟩:=e.keep _ _ h n fun m=>o (hM _ m);.dT h1 n1 (hO _ _ h o) (RepP.ext e hM hO r)
 | _,_,.obj k h n o r=>let ⟨h1,n1⟩:=e.keep _ _ h n fun m=>o (hM _ m);.obj k h1 n1 (hO _ _ h o) (RepP.ext e hM hO r)
 | _,_,.cls k=> .cls k
 | _,_,.exc k h n o x=>let ⟨h1,n1⟩:=e.keep _ _ h n fun m=>o (hM _ m);.exc k h1 n1 (hO _ _ h o) (x.imp fun d u h n q=>let ⟨h1,n1⟩:=e.keep d u h n fun m=>q (hM _ m);⟨h1,n1,hO d u h q⟩)
 | _,_,.loc l h=> .loc (Nat.lt_of_lt_of_le l e.len) fun a q=>h a (e.bet _ _ l q)
theorem Reps.ext (e:Ext M β H β' H') (hM: ∀a,M a→O a) (hO: ∀a o,H a=some o→¬O a→¬O' a): ∀{x:List V3} {y:List V},Reps κ β O H x y→Reps κ β' O' H' x y
 | _,_,.nil=> .nil
 | _,_,.cons a r=> .cons (Rep.ext e hM hO a) (Reps.ext e hM hO r)
theorem RepP.ext (e:Ext M β H β' H') (hM: ∀a,M a→O a) (hO: ∀a o,H a=some o→¬O a→¬O' a): ∀{α:Type} {x:List (α×V3)} {y:List (α×V)},RepP κ β O H x y→RepP κ β' O' H' x y
 | _,_,_,.nil=> .nil
 | _,_,_,.cons a r=> .cons (Rep.ext e hM hO a) (RepP.ext e hM hO r)
end
end
section
variable {κ:Kx} {β β':List (Option Addr)} {O O':Addr→Prop} {H H':Hp} {M:Addr→Prop}
theorem Rep.sub (h: ∀a,O' a→O a) {x:V3} {y:V} (r:Rep κ β O H x y):Rep κ β O' H x y:=r.ext (M:=No) Ext.refl (fun _ z=>z.elim) fun a _ _ n m=>n (h a m)
theorem Reps.sub (h: ∀a,O' a→O a) {x:List V3} {y:List V} (r:Reps κ β O H x y):Reps κ β O' H x y:=r.ext (M:=No) Ext.refl (fun _ z=>z.elim) fun a _ _ n m=>n (h a m)
theorem RepP.sub (h: ∀a,O' a→O a) {α:Type} {x:List (α×V3)} {y:List (α×V)} (r:RepP κ β O H x y):RepP κ β O' H x y:=r.ext (M:=No) Ext.refl (fun _ z=>z.elim) fun a _ _ n m=>n (h a m)
theorem Rep.ext0 (e:Ext No β H β' H') {x:V3} {y:V} (r:Rep κ β O H x y):Rep κ β' O H' x y:=r.ext e (fun _ z=>z.elim) fun _ _ _ n=>n
theorem Reps.ext0 (e:Ext No β H β' H') {x:List V3} {y:List V} (r:Reps κ β O H x y):Reps κ β' O H' x y:=r.ext e (fun _ z=>z.elim) fun _ _ _ n=>n
theorem Reps.length: ∀{x:List V3} {y:List V},Reps κ β O H x y→x.length=y.length
 | _,_,.nil=>rfl
 | _,_,.cons _ r=>congrArg (· +1) r.length
theorem Reps.get: ∀{xs:List V3} {ys:List V} {i:Nat} {x:V3},Reps κ β O H xs ys→xs[i]? =some x→∃y,ys[i]? =some y∧Rep κ β O H x y
 | _,_,_,_,.nil,e=>by simp at e
 | _,_,0,_,.cons r _,e=>by simp at e;subst e;exact ⟨_,rfl,r⟩
 | _,_,i+1,x,.cons _ t,e=>by
  obtain ⟨u,h1,h2⟩:=Reps.get (i:=i) (x:=x) t (by simpa using e)
  exact ⟨u,by simpa using h1,h2⟩
theorem Reps.get': ∀{xs:List V3} {ys:List V} {i:Nat} {y:V},Reps κ β O H xs ys→ys[i]? =some y→∃x,xs[i]? =some x∧Rep κ β O H x y
 | _,_,_,_,.nil,e=>by simp at e
 | _,_,0,_,.cons r _,e=>by simp at e;subst e;exact ⟨_,rfl,r⟩
 | _,_,i+1,x,.cons _ t,e=>by
  obtain ⟨u,h1,h2⟩:=Reps.get' (i:=i) (y:=x) t (by simpa using e)
  exact ⟨u,by simpa using h1,h2⟩
theorem Reps.append: ∀{xs:List V3} {ys:List V} {xs':List V3} {ys':List V},Reps κ β O H xs ys→Reps κ β O H xs' ys'→Reps κ β O H (xs++xs') (ys++ys')
 | _,_,_,_,.nil,s=>s
 | _,_,_,_,.cons r t,s=> .cons r (Reps.append t s)
theorem Reps.set {x:V3} {u:V} (r:Rep κ β O H x u): ∀{xs:List V3} {us:List V} (i:Nat),Reps κ β O H xs us→Reps κ β O H (xs.set i x) (us.set i u)
 | _,_,_,.nil=> .nil
 | _,_,0,.cons _ t=> .cons r t
 | _,_,i+1,.cons q t=> .cons q (Reps.set r i t)
theorem Reps.take: ∀{xs:List V3} {us:List V} (n:Nat),Reps κ β O H xs us→Reps κ β O H (xs.take n) (us.take n)
 | _,_,0,_=> .nil
 | _,_,_+1,.nil=> .nil
 | _,_,n+1,.cons r t=> .cons r (Reps.take n t)
theorem Reps.drop: ∀{xs:List V3} {us:List V} (n:Nat),Reps κ β O H xs us→Reps κ β O H (xs.drop n) (us.drop n)
 | _,_,0,r=>r
 | _,_,_+1,.nil=> .nil
 | _,_,n+1,.cons _ t=>Reps.drop n t
theorem Reps.rep {xs:List V3} {us:List V} (h:Reps κ β O H xs us): ∀k:Nat,Reps κ β O H (List.replicate k xs).flatten (List.replicate k us).flatten
 | 0=> .nil
 | k+1=>by
  rw [List.replicate_succ,List.replicate_succ,List.flatten_cons,List.flatten_cons]
  exact h.append (Reps.rep h k)
end
def CellR (κ:Kx) (β:List (Option Addr)) (O:Addr→Prop) (H:Hp):C3→Addr→Prop
 | .lst xs,a=> ∃ys,H a=some (.lst ys)∧Reps κ β O H xs ys
 | .dK kvs,a=> ∃ws,H a=some (.dK ws)∧RepP κ β O H kvs ws
 | .dT kvs,a=> ∃ws,H a=some (.dT ws)∧RepP κ β O H kvs ws
 | .ins c fs,a=> ∃C dx gs,κ.cl c=some C∧H a=some (.ins C dx gs)∧RepP κ β O H fs gs
 | .dead,_=>False
structure RelH (κ:Kx) (O:Addr→Prop) (β:List (Option Addr)) (h:H3) (H:Hp):Prop where
 len:β.length=h.length
 inj: ∀(i j:Nat) a,β[i]? =some (some a)→β[j]? =some (some a)→i=j
 off: ∀a,O a→some a∉β
 trk: ∀a,O a→∃o,H a=some o∧∀ys,o≠HO.tup ys
 btr: ∀(i:Nat) a,β[i]? =some (some a)→∃o,H a=some o∧∀ys,o≠HO.tup ys
 cell: ∀(i:Nat) c,h[i]? =some c→c= .dead∨∃a,β[i]? =some (some a)∧CellR κ β O H c a
structure Fr where
 Oi:Addr→Prop
 T:List Addr
 β:List (Option Addr)
 l:List (Option Addr)
 s:S3
 h:H3
def Fr.O (F:Fr):Addr→Prop:=fun a=>a∈F.T∨some a∈F.l∨F.Oi a
def SlotR (κ:Kx) (F:Fr) (H:Hp) (i:Nat):Vl→V→Prop
 | .v x,v=>Rep κ F.β F.O H x v
 | .m c,v=> ∃a,F.l[i]? =some (some a)∧v= .ref a∧CellR κ F.β F.O H c a
structure Rel (κ:Kx) (F:Fr) (σ:St) (H:Hp):Prop where
 heap:RelH κ F.O F.β F.h H
 slen:F.s.length=σ.length
 llen:F.l.length=F.s.length
 linj: ∀(i j:Nat) a,F.l[i]? =some (some a)→F.l[j]? =some (some a)→i=j
 lt: ∀a,some a∈F.l→a∉F.T
 lo: ∀a,some a∈F.l→¬F.Oi a
 to: ∀a∈F.T,¬F.Oi a
 tn:F.T.Nodup
 slot: ∀(i:Nat) x,F.s[i]? =some (some x)→∃v,σ[i]? =some (some v)∧SlotR κ F H i x v
section
variable {κ:Kx} {β β':List (Option Addr)} {O O':Addr→Prop} {H H':Hp} {M:Addr→Prop} {c:C3} {a:Addr} {h:H3}
theorem CellR.sub (hs: ∀a,O' a→O a) (r:CellR κ β O H c a):CellR κ β O' H c a:=by
 cases c with
 | lst xs=>obtain ⟨_,q,r⟩:=r;exact ⟨_,q,r.sub hs⟩
 | dK xs=>obtain ⟨_,q,r⟩:=r;exact ⟨_,q,r.sub hs⟩
 | dT xs=>obtain ⟨_,q,r⟩:=r;exact ⟨_,q,r.sub hs⟩
 | ins c fs=>obtain ⟨_,_,_,k,q,r⟩:=r;exact ⟨_,_,_,k,q,r.sub hs⟩
 | dead=>exact r
theorem CellR.ext (e:Ext M β H β' H') (hM: ∀a,M a→O a) (hO: ∀a o,H a=some o→¬O a→¬O' a) (hb: ∀o,H a=some o→H' a=some o) (r:CellR κ β O H c a):CellR κ β' O' H' c a:=by
 cases c with
 | lst xs=>obtain ⟨_,q,r⟩:=r;exact ⟨_,hb _ q,r.ext e hM hO⟩
 | dK xs=>obtain ⟨_,q,r⟩:=r;exact ⟨_,hb _ q,r.ext e hM hO⟩
 | dT xs=>obtain ⟨_,q,r⟩:=r;exact ⟨_,hb _ q,r.ext e hM hO⟩
 | ins c fs=>obtain ⟨_,_,_,k,q,r⟩:=r;exact ⟨_,_,_,k,hb _ q,r.ext e hM hO⟩
 | dead=>exact r
theorem CellR.fz {x:V3} (hc:c.fz=some x) (hn:some a∉β) (ho: ¬O a) (r:CellR κ β O H c a):Rep κ β O H x (.ref a):=by
 cases c with
 | lst xs=>cases hc;obtain ⟨_,q,r⟩:=r;exact .lst q hn ho r
 | dK xs=>cases hc;obtain ⟨_,q,r⟩:=r;exact .dK q hn ho r
 | dT xs=>cases hc;obtain ⟨_,q,r⟩:=r;exact .dT q hn ho r
 | ins c fs=>cases hc;obtain ⟨_,_,_,k,q,r⟩:=r;exact .obj k q hn ho r
 | dead=>exact r.elim
theorem RelH.sub (hs: ∀a,O' a→O a) (r:RelH κ O β h H):RelH κ O' β h H:=
 ⟨r.len,r.inj,fun a ha=>r.off a (hs a ha),fun a ha=>r.trk a (hs a ha),r.btr,fun i c hc=>(r.cell i c hc).imp id fun ⟨a,ha,q⟩=>⟨a,ha,q.sub hs⟩⟩
end
abbrev Fr.with (F:Fr) (p:Addr):Fr:={F with T:=p::F.T}
abbrev Fr.to (F:Fr) (β:List (Option Addr)) (h:H3):Fr:={F with β:=β,h:=h}
abbrev Nw (H:Hp):Addr→Prop:=fun p=>H p=none
def Post (κ:Kx) (N:Addr→Prop) (F:Fr) (σ:St) (H:Hp):Vl→V→Prop
 | .v x,v=>Rel κ F σ H∧Rep κ F.β F.O H x v
 | .m c,v=> ∃p,v= .ref p∧Rel κ (F.with p) σ H∧CellR κ F.β (F.with p).O H c p∧N p
def XOk (κ:Kx) (E:XK) (x:X3) (β:List (Option Addr)) (O:Addr→Prop) (H:Hp):Prop:=∀C dd,κ.cl x.c=some C→XD β O H dd x.nm.toList→E (.ref C) dd H
theorem XOk.sub {κ:Kx} {E:XK} {x:X3} {β:List (Option Addr)} {O O':Addr→Prop} {H:Hp} (o:XOk κ E x β O H) (hs: ∀a,O a→O' a):XOk κ E x β O' H:=fun C dd hC q=>o C dd hC (q.imp fun d u h n m=>⟨h,n,fun z=>m (hs d z)⟩)
abbrev Kd (α ω:Type):=Hp→Fr→St→Hp→α→ω→Prop
def zg4 {α ω:Type} (K:Kd α ω):Prop:=∀(M:Addr→Prop) β H β1 H1 F σ H' a w,Ext M β H β1 H1→K H1 F σ H' a w→K H F σ H' a w
def Out {α ω:Type} (κ:Kx) (E:XK) (K:Kd α ω) (F:Fr) (σ:St) (H:Hp) (Q:ω→Hp→Prop):Res α→Prop
 | .ok a h'=> ∀β' w H',Ext No F.β H β' H'→K H (F.to β' h') σ H' a w→Q w H'
 | .ex x h'=> ∀β' H',Ext No F.β H β' H'→RelH κ F.Oi β' h' H'→XOk κ E x β' F.Oi H'
 | .no=>False
def tOf {α ω:Type} (κ:Kx) (E:XK) (K:Kd α ω) (d:S3→H3→Res α) (σ:St) (H:Hp) (Q:ω→Hp→Prop):Prop:=∃F,Rel κ F σ H∧Out κ E K F σ H Q (d F.s F.h)
def kE (κ:Kx):Kd Vl V:=fun H F σ H' r v=>Post κ (Nw H) F σ H' r v
abbrev zg (κ:Kx) (E:XK) (d:E3):TE:=tOf κ E (kE κ) d
section
variable {κ:Kx} {E:XK} {F:Fr} {σ:St} {H H':Hp} {Q:VK} {p:Addr}
theorem Fr.O_with {a:Addr} (h:F.O a):(F.with p).O a:=h.imp (fun z=>List.mem_cons_of_mem _ z) id
theorem SlotR.sub {F F':Fr} {i:Nat} {x:Vl} {v:V} (hb:F'.β=F.β) (hl:F'.l=F.l) (hs: ∀a,F'.O a→F.O a) (h:SlotR κ F H i x v):SlotR κ F' H i x v:=by
 cases x with
 | v x=>show Rep κ F'.β F'.O H x v;rw [hb];exact Rep.sub hs h
 | m c=>obtain ⟨a,h1,h2,h3⟩:=h;refine ⟨a,by rw [hl];exact h1,h2,?_⟩;rw [hb];exact h3.sub hs
theorem Rel.drop (h:Rel κ (F.with p) σ H):Rel κ F σ H where
 heap:=h.heap.sub fun a ha=>Fr.O_with ha
 slen:=h.slen
 llen:=h.llen
 linj:=h.linj
 lt:=fun a ha z=>h.lt a ha (List.mem_cons_of_mem _ z)
 lo:=h.lo
 to:=fun a ha=>h.to a (List.mem_cons_of_mem _ ha)
 tn:=(List.nodup_cons.mp h.tn).2
 slot:=fun i x e=>let ⟨v,a,b⟩:=h.slot i x e;⟨v,a,SlotR.sub (F:=F.with p) (F':=F) rfl rfl (fun a ha=>Fr.O_with ha) b⟩
theorem Rel.apart (h:Rel κ (F.with p) σ H): ¬F.O p:=fun z=>by
 rcases z with z | z | z
 ·exact (List.nodup_cons.mp h.tn).1 z
 ·exact h.lt p z List.mem_cons_self
 ·exact h.to p List.mem_cons_self z
theorem Rel.offp (h:Rel κ (F.with p) σ H):some p∉F.β:=h.heap.off p (.inl List.mem_cons_self)
theorem Post.fz {N:Addr→Prop} {x:Vl} {y:V3} {v:V} (h:Post κ N F σ H x v) (e:x.fz=some y):Rel κ F σ H∧Rep κ F.β F.O H y v:=by
 cases x with
 | v x=>cases e;exact h
 | m c=>
  obtain ⟨p,rfl,r,q,_⟩:=h
  exact ⟨r.drop,(q.sub (O':=F.O) fun a ha=>Fr.O_with ha).fz e r.offp r.apart⟩
theorem Post.imp {N N':Addr→Prop} {x:Vl} {v:V} (h:Post κ N F σ H x v) (k: ∀p,N p→N' p):Post κ N' F σ H x v:=by
 cases x with
 | v x=>exact h
 | m c=>obtain ⟨p,h1,h2,h3,h4⟩:=h;exact ⟨p,h1,h2,h3,k p h4⟩
theorem Ext.nw {M:Addr→Prop} {β β':List (Option Addr)} {H0 H1:Hp} (e:Ext M β H0 β' H1): ∀p,Nw H1 p→Nw H0 p:=fun p h=>by
 cases w:H0 p with
 | none=>exact w
 | some o=>obtain ⟨o',z⟩:=e.there p o w;rw [h] at z;cases z
theorem Rel.slotExt {β':List (Option Addr)} {h':H3} (r:Rel κ F σ H) (e:Ext No F.β H β' H') {i:Nat} {x:Vl} {v:V} (q:SlotR κ F H i x v):SlotR κ (F.to β' h') H' i x v:=by
 cases x with
 | v x=>exact Rep.ext0 e q
 | m c=>
  obtain ⟨a,h1,h2,h3⟩:=q
  have ha:F.O a:= .inr (.inl (List.mem_of_getElem? h1))
  exact ⟨a,h1,h2,h3.ext e (fun _ z=>z.elim) (fun _ _ _ n=>n) fun o ho=>(e.keep a o ho (r.heap.off a ha) fun z=>z).1⟩
theorem Rel.next {β':List (Option Addr)} {h':H3} (r:Rel κ F σ H) (e:Ext No F.β H β' H') (rh:RelH κ F.O β' h' H'):Rel κ (F.to β' h') σ H' where
 heap:=rh
 slen:=r.slen
 llen:=r.llen
 linj:=r.linj
 lt:=r.lt
 lo:=r.lo
 to:=r.to
 tn:=r.tn
 slot:=fun i x hx=>let ⟨v,a,b⟩:=r.slot i x hx;⟨v,a,r.slotExt e b⟩
theorem Out.move {α ω:Type} {K:Kd α ω} {Q:ω→Hp→Prop} {r:Res α} {β':List (Option Addr)} {h':H3} (hK:zg4 K) (e:Ext No F.β H β' H') (o:Out κ E K F σ H Q r):Out κ E K (F.to β' h') σ H' Q r:=by
 cases r with
 | ok x h2=>exact fun β2 v H2 e2 p=>o β2 v H2 (e.trans0 e2) (hK _ _ _ _ _ _ _ _ _ _ e p)
 | ex x h2=>exact fun β2 H2 e2 p=>o β2 H2 (e.trans0 e2) p
 | no=>exact o
theorem zy:zg4 (kE κ):=fun M β H β1 H1 F σ H' a w e h=>Post.imp h e.nw
theorem tOf.mono {α ω:Type} {K:Kd α ω} {Q Q':ω→Hp→Prop} {d:S3→H3→Res α} (h:tOf κ E K d σ H Q) (k: ∀v H,Q v H→Q' v H):tOf κ E K d σ H Q':=by
 obtain ⟨F,rel,o⟩:=h
 refine ⟨F,rel,?_⟩
 cases q:d F.s F.h with
 | ok r h1=>rw [q] at o;exact fun β v H' e p=>k _ _ (o β v H' e p)
 | ex x h1=>rw [q] at o;exact o
 | no=>rw [q] at o;exact o
theorem zN {α ω α' ω':Type} {K:Kd α ω} {K':Kd α' ω'} {Q:ω'→Hp→Prop} {a:S3→H3→Res α} {k:α→H3→Res α'} (hK:zg4 K') (rel:Rel κ F σ H) (h:Out κ E K' F σ H Q ((a F.s F.h).bind k)):
  tOf κ E K a σ H (fun w H1=> ∃β1 h1 x,Ext No F.β H β1 H1∧K H (F.to β1 h1) σ H1 x w∧Out κ E K' (F.to β1 h1) σ H1 Q (k x h1)):=by
 refine ⟨F,rel,?_⟩
 cases q:a F.s F.h with
 | no=>rw [q] at h;exact h
 | ex x h1=>rw [q] at h;exact h
 | ok r h1=>rw [q] at h;exact fun β1 v H1 e p=>⟨β1,h1,r,e,p,Out.move hK e h⟩
theorem yj {β:List (Option Addr)} {o:HO} (hp:H p=none):Ext No β H β (zi H p o):=
 ⟨fun a u ha hn _=>⟨by rw [zv (yG ha hp)];exact ha,hn⟩,Nat.le_refl _,fun _ _ _ h=>h,fun a u ha=>⟨u,by rw [zv (yG ha hp)];exact ha⟩,nwb0⟩
theorem RelH.trk' {O:Addr→Prop} {β:List (Option Addr)} {h:H3} (r:RelH κ O β h H) (a:Addr) (ha:O a): ∃o,H a=some o:=let ⟨u,q,_⟩:=r.trk a ha;⟨u,q⟩
theorem RelH.btr' {O:Addr→Prop} {β:List (Option Addr)} {h:H3} (r:RelH κ O β h H) (i:Nat) (a:Addr) (e:β[i]? =some (some a)): ∃o,H a=some o:=let ⟨u,q,_⟩:=r.btr i a e;⟨u,q⟩
theorem CellR.nt {β:List (Option Addr)} {O:Addr→Prop} {c:C3} {u:HO} {l:Addr} (h:CellR κ β O (zi H l u) c l): ∀ys,u≠HO.tup ys:=by
 intro ys z
 subst z
 cases c with
 | lst xs=>obtain ⟨_,e,_⟩:=h;rw [zX] at e;cases e
 | dK xs=>obtain ⟨_,e,_⟩:=h;rw [zX] at e;cases e
 | dT xs=>obtain ⟨_,e,_⟩:=h;rw [zX] at e;cases e
 | ins c fs=>obtain ⟨_,_,_,_,e,_⟩:=h;rw [zX] at e;cases e
 | dead=>exact h
theorem RelH.off_new {O:Addr→Prop} {β:List (Option Addr)} {h:H3} (r:RelH κ O β h H) (hp:H p=none):some p∉β∧¬O p:=by
 refine ⟨fun z=>?_,fun z=>?_⟩
 ·obtain ⟨i,hi⟩:=List.getElem?_of_mem z
  obtain ⟨o,ho,_⟩:=r.btr i p hi
  rw [hp] at ho;cases ho
 ·obtain ⟨o,ho,_⟩:=r.trk p z
  rw [hp] at ho;cases ho
theorem RelH.laid {O:Addr→Prop} {β:List (Option Addr)} {h:H3} {o:HO} (r:RelH κ O β h H) (hp:H p=none):RelH κ O β h (zi H p o):=by
 have k: ∀a u,H a=some u→zi H p o a=some u:=fun a u ha=>by rw [zv (yG ha hp)];exact ha
 exact ⟨r.len,r.inj,r.off,fun a ha=>let ⟨u,q,n⟩:=r.trk a ha;⟨u,k a u q,n⟩,fun i a e=>let ⟨u,q,n⟩:=r.btr i a e;⟨u,k a u q,n⟩,
  fun i c hc=>(r.cell i c hc).imp id fun ⟨a,ha,q⟩=>⟨a,ha,q.ext (yj hp) (fun _ z=>z.elim) (fun _ _ _ n=>n) fun u hu=>k a u hu⟩⟩
theorem Rel.laid {o:HO} (r:Rel κ F σ H) (hp:H p=none):Rel κ F σ (zi H p o):=r.next (yj hp) (r.heap.laid hp)
theorem O_ne {a:Addr} (h:(F.with p).O a) (hne:a≠p):F.O a:=by
 rcases h with h | h
 ·rcases List.mem_cons.mp h with h | h
  ·exact absurd h hne
  ·exact .inl h
 ·exact .inr h
theorem Rel.new {o:HO} (r:Rel κ F σ H) (hp:H p=none) (ho: ∀ys,o≠HO.tup ys:=by intro _ z;cases z):Rel κ (F.with p) σ (zi H p o)∧∀{x:V3} {y:V},Rep κ F.β F.O H x y→Rep κ F.β (F.with p).O (zi H p o) x y:=by
 obtain ⟨n1,n2⟩:=r.heap.off_new hp
 have e:Ext No F.β H F.β (zi H p o):=yj hp
 have hM: ∀a,No a→F.O a:=fun _ z=>z.elim
 have hO: ∀a u,H a=some u→¬F.O a→¬(F.with p).O a:=fun a u ha n z=>n (O_ne z (yG ha hp))
 have k: ∀a u,H a=some u→zi H p o a=some u:=fun a u ha=>by rw [zv (yG ha hp)];exact ha
 refine ⟨⟨⟨r.heap.len,r.heap.inj,fun a ha=>?_,fun a ha=>?_,fun i a q=>let ⟨u,z,n⟩:=r.heap.btr i a q;⟨u,k a u z,n⟩,fun i c hc=>(r.heap.cell i c hc).imp id fun ⟨a,ha,q⟩=>⟨a,ha,q.ext e hM hO fun u hu=>k a u hu⟩⟩,
  r.slen,r.llen,r.linj,?_,r.lo,?_,List.nodup_cons.mpr ⟨fun z=>n2 (.inl z),r.tn⟩,fun i x q=>?_⟩,fun h=>h.ext e hM hO⟩
 ·by_cases z:a=p
  ·subst z;exact n1
  ·exact r.heap.off a (O_ne ha z)
 ·by_cases z:a=p
  ·subst z;exact ⟨o,zX,ho⟩
  ·obtain ⟨u,q,n⟩:=r.heap.trk a (O_ne ha z);exact ⟨u,k a u q,n⟩
 ·intro a ha z
  rcases List.mem_cons.mp z with z | z
  ·subst z;exact n2 (.inr (.inl ha))
  ·exact r.lt a ha z
 ·intro a ha z
  rcases List.mem_cons.mp ha with h | h
  ·subst h;exact n2 (.inr (.inr z))
  ·exact r.to a h z
 ·obtain ⟨v,h1,h2⟩:=r.slot i x q
  refine ⟨v,h1,?_⟩
  cases x with
  | v x=>exact Rep.ext e hM hO h2
  | m c=>
   obtain ⟨a,a1,a2,a3⟩:=h2
   exact ⟨a,a1,a2,a3.ext e hM hO fun u hu=>k a u hu⟩
theorem Out.val {x:V3} {v:V} (o:Out κ E (kE κ) F σ H Q (.ok (.v x) F.h)) (rel:Rel κ F σ H) (r:Rep κ F.β F.O H x v):Q v H:=o F.β v H Ext.refl ⟨rel,r⟩
inductive Rf where
 | x (v:V3) | s (i:Nat)
abbrev P3:=S3→H3→Res Rf
def pV (i:Nat):P3:=fun s h=>match s[i]? with
 | some (some (.v x))=> .ok (.x x) h
 | some (some (.m _))=> .ok (.s i) h
 | _=> .no
def pE (e:E3):P3:=fun s h=>(e s h).bind fun r h1=>match r.fz with
 | some x=> .ok (.x x) h1
 | none=> .no
def RfR (κ:Kx) (F:Fr) (H:Hp):Rf→V→Prop
 | .x y,v=>Rep κ F.β F.O H y v
 | .s i,v=> ∃a c,F.l[i]? =some (some a)∧v= .ref a∧F.s[i]? =some (some (.m c))∧CellR κ F.β F.O H c a
def kP (κ:Kx):Kd Rf V:=fun _ F σ H' f v=>Rel κ F σ H'∧RfR κ F H' f v
abbrev zh (κ:Kx) (E:XK) (d:P3):TE:=tOf κ E (kP κ) d
theorem km_P:zg4 (kP κ):=fun _ _ _ _ _ _ _ _ _ _ _ h=>h
theorem RfR.ext {β':List (Option Addr)} {h':H3} {f:Rf} {v:V} (rel:Rel κ F σ H) (e:Ext No F.β H β' H') (r:RfR κ F H f v):RfR κ (F.to β' h') H' f v:=by
 cases f with
 | x y=>exact Rep.ext0 e r
 | s i=>
  obtain ⟨a,c,h1,h2,h3,h4⟩:=r
  have ha:F.O a:= .inr (.inl (List.mem_of_getElem? h1))
  exact ⟨a,c,h1,h2,h3,h4.ext e (fun _ z=>z.elim) (fun _ _ _ n=>n) fun o ho=>(e.keep a o ho (rel.heap.off a ha) fun z=>z).1⟩
def rdl (s:S3) (h:H3):Rf→Option (List V3)
 | .x (.lst xs)=>some xs
 | .x (.scr ns)=>some (ns.map .int)
 | .x (.loc n)=>match h[n]? with
  | some (.lst xs)=>some xs
  | _=>none
 | .s i=>match s[i]? with
  | some (some (.m (.lst xs)))=>some xs
  | _=>none
 | _=>none
theorem zdp {f:Rf} {v:V} {xs:List V3} (rel:Rel κ F σ H) (r:RfR κ F H f v) (e:rdl F.s F.h f=some xs): ∃a ys,v= .ref a∧SqL κ.K H a ys∧Reps κ F.β F.O H xs ys:=by
 cases f with
 | s i=>
  obtain ⟨a,c,h1,h2,h3,h4⟩:=r
  simp only [rdl,h3] at e
  cases c <;> simp at e
  subst e
  obtain ⟨ys,h5,h6⟩:=h4
  exact ⟨a,ys,h2,.of h5,h6⟩
 | x y=>
  cases y <;> simp [rdl] at e
  case lst zs=>
   subst e
   cases r with
   | lst h1 h2 h3 h4=>exact ⟨_,_,rfl,.of h1,h4⟩
  case scr ns=>
   subst e
   have g: ∀l:List Int,Reps κ F.β F.O H (l.map V3.int) (l.map V.int):=fun l=>by
    induction l with
    | nil=>exact .nil
    | cons x r ih=>exact .cons (.int x) ih
   cases r with
   | scr h1 h2 h3=>exact ⟨_,_,rfl,.inl (.inr ⟨_,h1⟩),g ns⟩
   | scrK h=>exact ⟨_,_,rfl,.inr h,g ns⟩
  case loc n=>
   cases r with
   | loc h1 h2=>
    cases q:F.h[n]? with
    | none=>rw [q] at e;cases e
    | some c=>
     rw [q] at e
     cases c <;> simp at e
     subst e
     rcases rel.heap.cell n _ q with z | ⟨a,ha,ys,h5,h6⟩
     ·cases z
     ·exact ⟨a,ys,h2 a ha,.of h5,h6⟩
end
abbrev A3:=S3→H3→Res (List Rf)
def aNil:A3:=fun _ h=> .ok [] h
def aCons (p:P3) (a:A3):A3:=fun s h=>(p s h).bind fun f h1=>(a s h1).bind fun fs h2=> .ok (f::fs) h2
def kA (κ:Kx):Kd (List Rf) (List V):=fun _ F σ H' fs vs=>Rel κ F σ H'∧Paired (RfR κ F H') fs vs
abbrev zw (κ:Kx) (E:XK) (d:A3):TA:=tOf κ E (kA κ) d
def vals3:List Rf→Option (List V3)
 | []=>some []
 | .x v::r=>(vals3 r).map (v:: ·)
 | .s _::_=>none
abbrev T3:=S3→H3→Res Bool
def kT (κ:Kx):Kd Bool Bool:=fun _ F σ H' b b'=>b'=b∧Rel κ F σ H'
abbrev zA (κ:Kx) (E:XK) (d:T3):TT:=tOf κ E (kT κ) d
section
variable {X:Cx} {κ:Kx} {E:XK} {F:Fr} {σ:St} {H H':Hp} {Q:VK} {p:Addr} {e a b:Expr} {pos:Pos} {i:Nat}
theorem km_A:zg4 (kA κ):=fun _ _ _ _ _ _ _ _ _ _ _ h=>h
theorem km_T:zg4 (kT κ):=fun _ _ _ _ _ _ _ _ _ _ _ h=>h
theorem yh {t t':TE} (h:PE X e t) (w: ∀σ H Q,t' σ H Q→t σ H Q):PE X e t':=fun pins s σ H Q I q=>h pins s σ H Q I (w σ H Q q)
theorem PTw {t t':TT} (h:PT X e t) (w: ∀σ H Q,t' σ H Q→t σ H Q):PT X e t':=fun pins s σ H Q I q=>h pins s σ H Q I (w σ H Q q)
theorem PWw {t t':TT} (h:PW X e t) (w: ∀σ H Q,t' σ H Q→t σ H Q):PW X e t':=fun wh pins s σ H Q I q=>h wh pins s σ H Q I (w σ H Q q)
theorem PAw {es:List Expr} {t t':TA} (h:PA X es t) (w: ∀σ H Q,t' σ H Q→t σ H Q):PA X es t':=fun pos pins s σ H Q I q=>h pos pins s σ H Q I (w σ H Q q)
def eV (i:Nat):E3:=fun s h=>match s[i]? with
 | some (some (.v x))=> .ok (.v x) h
 | _=> .no
def eC (x:V3):E3:=fun _ h=> .ok (.v x) h
theorem rp_v (hv:PE X e (tVar i)):PE X e (zh κ E (pV i)):=yh hv fun σ H Q ⟨F,rel,o⟩=>by
 unfold pV at o
 cases q:F.s[i]? with
 | none=>rw [q] at o;exact o.elim
 | some z=>
  rw [q] at o
  match z,q,o with
  | none,q,o=>exact o.elim
  | some (.m c),q,o=>
   obtain ⟨v,h1,a,h2,h3,h4⟩:=rel.slot i _ q
   exact ⟨v,h1,o F.β v H Ext.refl ⟨rel,a,c,h2,h3,q,h4⟩⟩
  | some (.v x),q,o=>
   obtain ⟨v,h1,h2⟩:=rel.slot i _ q
   exact ⟨v,h1,o F.β v H Ext.refl ⟨rel,h2⟩⟩
theorem za {d:E3} (h:PE X e (zg κ E d)):PE X e (zh κ E (pE d)):=yh h fun σ H Q ⟨F,rel,o⟩=>
 (zN (K:=kE κ) km_P rel o).mono fun v H1 ⟨β1,h1,x,e1,p1,o1⟩=>by
  cases z:x.fz with
  | none=>simp only [z] at o1;exact o1.elim
  | some y=>
   simp only [z] at o1
   obtain ⟨r1,r2⟩:=Post.fz p1 z
   exact o1 β1 v H1 Ext.refl ⟨r1,r2⟩
theorem ya {x:V3} {v:V} (hc:PE X e (tC v)) (r: ∀β O H,Rep κ β O H x v):PE X e (zg κ E (eC x)):=yh hc fun σ H Q ⟨F,rel,o⟩=>o.val rel (r _ _ _)
theorem zqb {i j pos}:PE X (.Constant (.int i) j pos) (zg κ E (eC (.int i))):=ya zq7 fun _ _ _=> .int i
theorem r_bl {b j pos}:PE X (.Constant (.bool b) j pos) (zg κ E (eC (.bl b))):=ya zq6 fun _ _ _=> .bl b
theorem zfu {j pos}:PE X (.Constant .none j pos) (zg κ E (eC .non)):=ya zqu fun _ _ _=> .non
theorem zS {x j pos}:PE X (.Constant (.str x) j pos) (zg κ E (eC (.str x))):=ya zjm fun _ _ _=> .str x
theorem zf:PA X [] (zw κ E aNil):=PAw znl fun σ H Q ⟨F,rel,o⟩=>o F.β [] H Ext.refl ⟨rel,.nil⟩
theorem zc {es:List Expr} {d:P3} {t:A3} (ha:PE X e (zh κ E d)) (hr:PA X es (zw κ E t)) (hs:starEach (e::es) X.env=(false,eval e X.env)::starEach es X.env:=by rfl):PA X (e::es) (zw κ E (aCons d t)):=
 PAw (zhj ha hr hs) fun σ H Q ⟨F,rel,o⟩=>
  (zN (K:=kP κ) km_A rel o).mono fun v H1 ⟨β1,h1,x,e1,⟨r1,rf1⟩,o1⟩=>
   (zN (F:=F.to β1 h1) (K:=kA κ) km_A r1 o1).mono fun vs H2 ⟨β2,h2,fs,e2,⟨r2,rf2⟩,o2⟩=>o2 β2 (v::vs) H2 Ext.refl ⟨r2,.cons (RfR.ext (F:=F.to β1 h1) (β':=β2) (h':=h2) r1 e2 rf1) rf2⟩
theorem zc9: ∀{fs:List Rf} {vs:List V} {xs:List V3},Paired (RfR κ F H) fs vs→vals3 fs=some xs→Reps κ F.β F.O H xs vs
 | _,_,_,.nil,e=>by cases e;exact .nil
 | f::fs,v::vs,xs,.cons q t,e=>by
  cases f with
  | s i=>cases e
  | x y=>
   unfold vals3 at e
   cases z:vals3 fs with
   | none=>rw [z] at e;cases e
   | some l=>rw [z] at e;cases e;exact .cons q (zc9 t z)
abbrev F2:=S3→H3→Rf→Rf→Option Vl
def opt (h:H3):Option Vl→Res Vl
 | some z=> .ok z h
 | none=> .no
def eOp (f:F2) (a b:P3):E3:=fun s h=>(a s h).bind fun x h1=>(b s h1).bind fun y h2=>opt h2 (f s h2 x y)
def OpSim (κ:Kx) (r:R2) (f:F2):Prop:=∀(F:Fr) (σ:St) (H:Hp) (x y:Rf) (z:Vl) (v w:V) (Q:VK),Rel κ F σ H→RfR κ F H x v→RfR κ F H y w→f F.s F.h x y=some z→
 (∀u H',Ext No F.β H F.β H'→Post κ (Nw H) F σ H' z u→Q u H')→r v w H Q
theorem Out.opt {o:Option Vl} {h:H3} (h0:F.h=h) (q:Out κ E (kE κ) F σ H Q (opt h o)): ∃z,o=some z∧∀u H',Ext No F.β H F.β H'→Post κ (Nw H) F σ H' z u→Q u H':=by
 cases o with
 | none=>exact q.elim
 | some z=>subst h0;exact ⟨z,rfl,fun u H' e p=>q F.β u H' e p⟩
theorem zl9 {r:R2} {f:F2} {a b:P3} (hs:OpSim κ r f) (h:zg κ E (eOp f a b) σ H Q):tOp r (zh κ E a) (zh κ E b) σ H Q:=by
 obtain ⟨F,rel,o⟩:=h
 refine (zN (K:=kP κ) zy rel o).mono fun v H1 ⟨β1,h1,f1,e1,⟨r1,rf1⟩,o1⟩=>?_
 refine (zN (F:=F.to β1 h1) (K:=kP κ) zy r1 o1).mono fun w H2 ⟨β2,h2,f2,e2,⟨r2,rf2⟩,o2⟩=>?_
 obtain ⟨z,q,k⟩:=Out.opt (F:=F.to β2 h2) rfl o2
 exact hs (F.to β2 h2) σ H2 f1 f2 z v w Q r2 (RfR.ext (F:=F.to β1 h1) (β':=β2) (h':=h2) r1 e2 rf1) rf2 q k
theorem zm {op:Operator} {r:R2} {f:F2} {da db:P3} (hs:OpSim κ r f) (ho:OpR X (binaryOp op) r) (ha:PE X a (zh κ E da)) (hb:PE X b (zh κ E db)):PE X (.BinOp a op b pos) (zg κ E (eOp f da db)):=yh (zs3 ho ha hb) fun _ _ _ h=>zl9 hs h
theorem zpa {op:CmpOp} {r:R2} {f:F2} {da db:P3} (hs:OpSim κ r f) (ho:OpR X (compareOp op) r) (hm:behindInMarks op b=false) (ha:PE X a (zh κ E da)) (hb:PE X b (zh κ E db)):PE X (.Compare a [op] [b] pos) (zg κ E (eOp f da db)):=yh (zoq ho ha hb hm) fun _ _ _ h=>zl9 hs h
theorem r_ix {r:R2} {f:F2} {da db:P3} (hs:OpSim κ r f) (ho:IxR X r) (hm:zfn b) (ha:PE X a (zh κ E da)) (hb:PE X b (zh κ E db)):PE X (.Subscript a b pos) (zg κ E (eOp f da db)):=yh (zs2 ho ha hb hm) fun _ _ _ h=>zl9 hs h
abbrev FB:=S3→H3→List Rf→Option Vl
def eB (f:FB) (a:A3):E3:=fun s h=>(a s h).bind fun fs h1=>opt h1 (f s h1 fs)
def qs (κ:Kx) (r:List V→Hp→VK→Prop) (f:FB):Prop:=∀(F:Fr) (σ:St) (H:Hp) (fs:List Rf) (z:Vl) (vs:List V) (Q:VK),Rel κ F σ H→Paired (RfR κ F H) fs vs→f F.s F.h fs=some z→
 (∀u H',Ext No F.β H F.β H'→Post κ (Nw H) F σ H' z u→Q u H')→r vs H Q
theorem te_b {r:List V→Hp→VK→Prop} {f:FB} {a:A3} (hs:qs κ r f) (h:zg κ E (eB f a) σ H Q):tCB r (zw κ E a) σ H Q:=by
 obtain ⟨F,rel,o⟩:=h
 refine (zN (K:=kA κ) zy rel o).mono fun vs H1 ⟨β1,h1,fs,e1,⟨r1,rf1⟩,o1⟩=>?_
 obtain ⟨z,q,k⟩:=Out.opt (F:=F.to β1 h1) rfl o1
 exact hs (F.to β1 h1) σ H1 fs z vs Q r1 rf1 q k
theorem zsj {a:Addr} {u:HO} (hp:H p=none) (ha:H a=some u) (n: ¬F.O a): ¬(F.with p).O a:=fun z=>n (O_ne z (yG ha hp))
theorem Post.lst {xs:List V3} {ys:List V} (rel:Rel κ F σ H) (hp:H p=none) (r:Reps κ F.β F.O H xs ys):Post κ (Nw H) F σ (zi H p (.lst ys)) (.m (.lst xs)) (.ref p):=by
 obtain ⟨r1,r2⟩:=rel.new (o:= .lst ys) hp
 exact ⟨p,rfl,r1,⟨ys,zX,r.ext (yj hp) (fun _ z=>z.elim) fun a u ha n=>zsj hp ha n⟩,hp⟩
theorem Post.dT {xs:List (MK×V3)} {ys:List (MK×V)} (rel:Rel κ F σ H) (hp:H p=none) (r:RepP κ F.β F.O H xs ys):Post κ (Nw H) F σ (zi H p (.dT ys)) (.m (.dT xs)) (.ref p):=by
 obtain ⟨r1,r2⟩:=rel.new (o:= .dT ys) hp
 exact ⟨p,rfl,r1,⟨ys,zX,r.ext (yj hp) (fun _ z=>z.elim) fun a u ha n=>zsj hp ha n⟩,hp⟩
theorem Post.tup {xs:List V3} {ys:List V} {N:Addr→Prop} (rel:Rel κ F σ H) (hp:H p=none) (r:Reps κ F.β F.O H xs ys):Post κ N F σ (zi H p (.tup ys)) (.v (.tup xs)) (.ref p):=by
 obtain ⟨n1,n2⟩:=rel.heap.off_new hp
 exact ⟨rel.laid hp,.tup zX n1 n2 (r.ext0 (yj hp))⟩
def eTup (a:A3):E3:=fun s h=>(a s h).bind fun fs h1=>match vals3 fs with
 | some xs=>if xs.length≤sizeLine then .ok (.v (.tup xs)) h1 else .no
 | none=> .no
def eLst (a:A3):E3:=fun s h=>(a s h).bind fun fs h1=>match vals3 fs with
 | some xs=>if xs.length≤sizeLine then .ok (.m (.lst xs)) h1 else .no
 | none=> .no
theorem qC {es:List Expr} {x1} {t:A3} (h:PA X es (zw κ E t)):PE X (.Tuple es x1 pos) (zg κ E (eTup t)):=yh (zr8 h) fun σ H Q ⟨F,rel,o⟩=>
 (zN (K:=kA κ) zy rel o).mono fun vs H1 ⟨β1,h1,fs,e1,⟨r1,rf1⟩,o1⟩=>by
  cases q:vals3 fs with
  | none=>simp only [q] at o1;exact o1.elim
  | some xs=>
   simp only [q] at o1
   have hr:=zc9 rf1 q
   by_cases hz:xs.length≤sizeLine
   ·rw [if_pos hz] at o1
    exact ⟨by rw [←hr.length];exact hz,fun p hp=>o1 β1 (.ref p) _ (yj hp) (Post.tup r1 hp hr)⟩
   ·rw [if_neg hz] at o1;exact o1.elim
theorem yV {es:List Expr} {t:A3} (h:PA X es (zw κ E t)):PE X (.List es pos) (zg κ E (eLst t)):=yh (zr1 h) fun σ H Q ⟨F,rel,o⟩=>
 (zN (K:=kA κ) zy rel o).mono fun vs H1 ⟨β1,h1,fs,e1,⟨r1,rf1⟩,o1⟩=>by
  cases q:vals3 fs with
  | none=>simp only [q] at o1;exact o1.elim
  | some xs=>
   simp only [q] at o1
   have hr:=zc9 rf1 q
   by_cases hz:xs.length≤sizeLine
   ·rw [if_pos hz] at o1
    exact ⟨by rw [←hr.length];exact hz,fun p hp=>o1 β1 (.ref p) _ (yj hp) (Post.lst r1 hp hr)⟩
   ·rw [if_neg hz] at o1;exact o1.elim
def tE (e:E3):T3:=fun s h=>(e s h).bind fun r h1=>match r with
 | .v (.bl b)=> .ok b h1
 | _=> .no
theorem zlp {d:E3} {Q:Bool→Hp→Prop} (h:zA κ E (tE d) σ H Q):zg κ E d σ H (fun x H'=> ∃k,x= .bl k∧Q k H'):=by
 obtain ⟨F,rel,o⟩:=h
 refine (zN (K:=kE κ) km_T rel o).mono fun v H1 ⟨β1,h1,x,e1,p1,o1⟩=>?_
 match x,p1,o1 with
 | .v (.bl b),p1,o1=>
  obtain ⟨r1,r2⟩:=p1
  cases r2
  exact ⟨b,rfl,o1 β1 b H1 Ext.refl ⟨rfl,r1⟩⟩
theorem yz {op:CmpOp} {r:R2} {f:F2} {da db:P3} (hs:OpSim κ r f) (ho:OpR X (compareOp op) r) (hm:behindInMarks op b=false) (ha:PE X a (zh κ E da)) (hb:PE X b (zh κ E db)):PT X (.Compare a [op] [b] pos) (zA κ E (tE (eOp f da db))):=PTw (zka ho ha hb hm) fun _ _ _ h=>zl9 hs (zlp h)
theorem yB {d:E3} (h:PE X e (zg κ E d)) (he: ∀whole,isTrue e X.env whole=(do let v ←whole;standAt e.pos;holding [v] (truthy v)):=by intro _;rfl):PT X e (zA κ E (tE d)):=PTw (zrq h he) fun _ _ _ q=>zlp q
def tAnd3 (a b:T3):T3:=fun s h=>(a s h).bind fun c h1=>if c=true then b s h1 else .ok false h1
def tOr3 (a b:T3):T3:=fun s h=>(a s h).bind fun c h1=>if c=true then .ok true h1 else b s h1
def tNot3 (a:T3):T3:=fun s h=>(a s h).bind fun c h1=> .ok (!c) h1
theorem zo1 {t:T3} (ha:PT X a (zA κ E t)):PW X (.BoolOp .And [a] pos) (zA κ E t):=zok ha
theorem zd7 {t:T3} (ha:PT X a (zA κ E t)):PW X (.BoolOp .Or [a] pos) (zA κ E t):=zsp ha
theorem zse {t u:T3} {rest:List Expr} (ha:PT X a (zA κ E t)) (hb:PW X (.BoolOp .And (b::rest) pos) (zA κ E u)):PW X (.BoolOp .And (a::b::rest) pos) (zA κ E (tAnd3 t u)):=PWw (zq8 ha hb) fun σ H Q ⟨F,rel,o⟩=>
 (zN (K:=kT κ) km_T rel o).mono fun c H1 ⟨β1,h1,x,e1,⟨ec,r1⟩,o1⟩=>by
  subst ec
  cases c with
  | true=>rw [if_pos rfl] at o1 ⊢;exact ⟨F.to β1 h1,r1,o1⟩
  | false=>rw [if_neg Bool.false_ne_true] at o1 ⊢;exact o1 β1 false H1 Ext.refl ⟨rfl,r1⟩
theorem ze5 {t u:T3} {rest:List Expr} (ha:PT X a (zA κ E t)) (hb:PW X (.BoolOp .Or (b::rest) pos) (zA κ E u)):PW X (.BoolOp .Or (a::b::rest) pos) (zA κ E (tOr3 t u)):=PWw (zs0 ha hb) fun σ H Q ⟨F,rel,o⟩=>
 (zN (K:=kT κ) km_T rel o).mono fun c H1 ⟨β1,h1,x,e1,⟨ec,r1⟩,o1⟩=>by
  subst ec
  cases c with
  | true=>rw [if_pos rfl] at o1 ⊢;exact o1 β1 true H1 Ext.refl ⟨rfl,r1⟩
  | false=>rw [if_neg Bool.false_ne_true] at o1 ⊢;exact ⟨F.to β1 h1,r1,o1⟩
theorem yM {t:T3} (ha:PT X a (zA κ E t)):PT X (.UnaryOp .Not a pos) (zA κ E (tNot3 t)):=PTw (zqa ha) fun σ H Q ⟨F,rel,o⟩=>
 (zN (K:=kT κ) km_T rel o).mono fun c H1 ⟨β1,h1,x,e1,⟨ec,r1⟩,o1⟩=>by
  subst ec
  exact o1 β1 _ H1 Ext.refl ⟨rfl,r1⟩
def eAnd (a b:E3):E3:=fun s h=>(tE a s h).bind fun c h1=>if c=true then b s h1 else .ok (.v (.bl false)) h1
def eOr (a b:E3):E3:=fun s h=>(tE a s h).bind fun c h1=>if c=true then .ok (.v (.bl true)) h1 else b s h1
def eNot (a:E3):E3:=fun s h=>(tE a s h).bind fun c h1=> .ok (.v (.bl !c)) h1
theorem zi9 {d u:E3} {rest:List Expr} (ha:PE X a (zg κ E d)) (hb:PE X (.BoolOp .And (b::rest) pos) (zg κ E u)):PE X (.BoolOp .And (a::b::rest) pos) (zg κ E (eAnd d u)):=yh (zq0 ha hb) fun σ H Q ⟨F,rel,o⟩=>by
 refine tOf.mono (zlp (zN (a:=tE d) (K:=kT κ) zy rel o)) fun x H1 ⟨k,ex,β1,h1,c,e1,⟨ec,r1⟩,o1⟩=>⟨k,ex,?_⟩
 subst ec
 cases k with
 | true=>rw [if_pos rfl] at o1 ⊢;exact ⟨F.to β1 h1,r1,o1⟩
 | false=>rw [if_neg Bool.false_ne_true] at o1 ⊢;exact o1 β1 _ H1 Ext.refl ⟨r1,.bl false⟩
theorem zqd {d:E3} (ha:PE X a (zg κ E d)):PE X (.UnaryOp .Not a pos) (zg κ E (eNot d)):=yh (zso ha) fun σ H Q ⟨F,rel,o⟩=>by
 refine tOf.mono (zlp (zN (a:=tE d) (K:=kT κ) zy rel o)) fun x H1 ⟨k,ex,β1,h1,c,e1,⟨ec,r1⟩,o1⟩=>⟨k,ex,?_⟩
 subst ec
 exact o1 β1 _ H1 Ext.refl ⟨r1,.bl _⟩
theorem zjk {op} {d:E3} (h:PE X a (zg κ E d)):PE X (.BoolOp op [a] pos) (zg κ E d):=zqr h
def eIf (t:T3) (a b:E3):E3:=fun s h=>(t s h).bind fun c h1=>if c=true then a s h1 else b s h1
end
inductive O3 where
 | nx (s:S3) (h:H3) | rt (r:Vl) (h:H3) | bk (s:S3) (h:H3) | ct (s:S3) (h:H3) | ex (x:X3) (h:H3) | no
abbrev D3:=S3→H3→O3
structure SExt (F:Fr) (H:Hp) (F':Fr) (H':Hp):Prop where
 ext:Ext (fun a=>some a∈F.l) F.β H F'.β H'
 lam: ∀a,some a∈F'.l→some a∈F.l∨H a=none
 oi:F'.Oi=F.Oi
 tt:F'.T=[]
abbrev NwS (F:Fr) (H:Hp):Addr→Prop:=fun p=>some p∈F.l∨H p=none
def SOut (κ:Kx) (E:XK) (F:Fr) (H:Hp) (D:Ends):O3→Prop
 | .nx s' h'=> ∀F' σ' H',SExt F H F' H'→F'.s=s'→F'.h=h'→Rel κ F' σ' H'→D.nx σ' H'
 | .bk s' h'=> ∀F' σ' H',SExt F H F' H'→F'.s=s'→F'.h=h'→Rel κ F' σ' H'→D.bk σ' H'
 | .ct s' h'=> ∀F' σ' H',SExt F H F' H'→F'.s=s'→F'.h=h'→Rel κ F' σ' H'→D.ct σ' H'
 | .rt r h'=> ∀F' σ' v H',SExt F H F' H'→F'.h=h'→Post κ (NwS F H) F' σ' H' r v→D.rt v H'
 | .ex x h'=> ∀F' H',SExt F H F' H'→RelH κ F'.Oi F'.β h' H'→XOk κ E x F'.β F'.Oi H'
 | .no=>False
def zj (κ:Kx) (E:XK) (d:D3):TS:=fun D σ H=> ∃F,Rel κ F σ H∧F.T=[]∧SOut κ E F H D (d F.s F.h)
section
variable {X:Cx} {κ:Kx} {E:XK} {F F1 F2:Fr} {σ σ':St} {H H1 H2 H':Hp} {Q:VK} {r:R} {p:Addr} {e a b:Expr} {pos:Pos} {i:Nat} {D:Ends}
theorem SExt.refl (ht:F.T=[]):SExt F H F H:=⟨Ext.refl,fun _ h=> .inl h,rfl,ht⟩
theorem SExt.trans (a:SExt F H F1 H1) (b:SExt F1 H1 F2 H2):SExt F H F2 H2 where
 ext:=⟨fun x o h n m=>(by
   obtain ⟨h1,n1⟩:=a.ext.keep x o h n m
   refine b.ext.keep x o h1 n1 fun z=>?_
   rcases a.lam x z with q | q
   ·exact m q
   ·rw [h] at q;cases q),Nat.le_trans a.ext.len b.ext.len,fun i x hi h=>a.ext.bet i x hi (b.ext.bet i x (Nat.lt_of_lt_of_le hi a.ext.len) h),fun x o h=>let ⟨o1,h1⟩:=a.ext.there x o h;b.ext.there x o1 h1,zgz a.ext.there (fun i x hi h=>b.ext.bet i x hi h) a.ext.nwb b.ext.nwb⟩
 lam:=fun x h=>by
  rcases b.lam x h with q | q
  ·exact a.lam x q
  ·cases w:H x with
   | none=>exact .inr rfl
   | some o=>
    obtain ⟨o',z⟩:=a.ext.there x o w
    rw [q] at z;cases z
 oi:=b.oi.trans a.oi
 tt:=b.tt
theorem SExt.of0 {β':List (Option Addr)} {h':H3} (ht:F.T=[]) (e:Ext No F.β H β' H'):SExt F H (F.to β' h') H':=
 ⟨⟨fun x o h n _=>e.keep x o h n fun z=>z,e.len,e.bet,e.there,e.nwb⟩,fun _ h=> .inl h,rfl,ht⟩
theorem SOut.move {o:O3} (e:SExt F H F1 H1) (h:SOut κ E F H D o):SOut κ E F1 H1 D o:=by
 cases o with
 | nx s h'=>exact fun F2 σ2 H2 e2=>h F2 σ2 H2 (e.trans e2)
 | bk s h'=>exact fun F2 σ2 H2 e2=>h F2 σ2 H2 (e.trans e2)
 | ct s h'=>exact fun F2 σ2 H2 e2=>h F2 σ2 H2 (e.trans e2)
 | rt r h'=>exact fun F2 σ2 v H2 e2 eh q=>h F2 σ2 v H2 (e.trans e2) eh (q.imp fun p hp=>hp.elim (e.lam p) fun z=> .inr (e.ext.nw p z))
 | ex x h'=>exact fun F2 H2 e2=>h F2 H2 (e.trans e2)
 | no=>exact h
theorem qv {st:Stmt} {t t':TS} (h:PS X st t) (w: ∀D σ H,t' D σ H→t D σ H):PS X st t':=fun pins s σ H D I q=>h pins s σ H D I (w D σ H q)
theorem PSsw {st:List Stmt} {t t':TS} (h:zW X st t) (w: ∀D σ H,t' D σ H→t D σ H):zW X st t':=fun pins s σ H D I q=>h pins s σ H D I (w D σ H q)
def sSkip:D3:=fun s h=> .nx s h
def sSeq (a b:D3):D3:=fun s h=>match a s h with
 | .nx s1 h1=>b s1 h1
 | o=>o
theorem yg:zW X [] (zj κ E sSkip):=PSsw zjw fun D σ H ⟨F,rel,ht,o⟩=>o F σ H (.refl ht) rfl rfl rel
theorem zr {st:Stmt} {rest:List Stmt} {da db:D3} (h1:PS X st (zj κ E da)) (h2:zW X rest (zj κ E db)):zW X (st::rest) (zj κ E (sSeq da db)):=PSsw (zij h1 h2) fun D σ H ⟨F,rel,ht,o⟩=>by
 refine ⟨F,rel,ht,?_⟩
 unfold sSeq at o
 cases q:da F.s F.h with
 | nx s1 h1=>
  rw [q] at o
  intro F' σ' H' e es eh r'
  refine ⟨F',r',e.tt,?_⟩
  rw [es,eh]
  exact SOut.move e o
 | rt r h=>rw [q] at o;exact o
 | bk s h=>rw [q] at o;exact o
 | ct s h=>rw [q] at o;exact o
 | ex x h=>rw [q] at o;exact o
 | no=>rw [q] at o;exact o
theorem zt {st:Stmt} {da:D3} (h1:PS X st (zj κ E da)):zW X [st] (zj κ E da):=zfv h1
theorem ql {α:Type} {l:List α} {i j:Nat} {x y:α} (h:(l.set i x)[j]? =some y):(i=j∧y=x)∨(i≠j∧l[j]? =some y):=by
 rw [List.getElem?_set] at h
 by_cases e:i=j
 ·rw [if_pos e] at h
  by_cases e2:i < l.length
  ·rw [if_pos e2] at h;exact .inl ⟨e,(Option.some.inj h).symm⟩
  ·rw [if_neg e2] at h;cases h
 ·rw [if_neg e] at h;exact .inr ⟨e,h⟩
theorem qA {l:List (Option Addr)} {i:Nat} {x:Option Addr} {a:Addr} (h:some a∈l.set i x):(x=some a)∨(some a∈l∧∃j,j≠i∧l[j]? =some (some a)):=by
 obtain ⟨j,hj⟩:=List.getElem?_of_mem h
 rcases ql hj with ⟨_,e⟩ | ⟨n,e⟩
 ·exact .inl e.symm
 ·exact .inr ⟨List.mem_of_getElem? e,j,fun z=>n z.symm,e⟩
abbrev Fr.setV (F:Fr) (i:Nat) (x:V3):Fr:={F with s:=F.s.set i (some (.v x)),l:=F.l.set i none}
abbrev Fr.setM (F:Fr) (i:Nat) (c:C3) (p:Addr):Fr:={F with s:=F.s.set i (some (.m c)),l:=F.l.set i (some p)}
abbrev Fr.setN (F:Fr) (i:Nat):Fr:={F with s:=F.s.set i none,l:=F.l.set i none}
theorem zhc {F:Fr} {i:Nat} {s:S3} {a:Addr} (h:({F with s:=s,l:=F.l.set i none}:Fr).O a):F.O a:=by
 rcases h with h | h | h
 ·exact .inl h
 ·rcases qA h with z | z
  ·cases z
  ·exact .inr (.inl z.1)
 ·exact .inr (.inr h)
theorem Rel.setGen {F:Fr} {i:Nat} {s:S3} {σ':St} (rel:Rel κ F σ H) (hsl:s.length=F.s.length) (hσ:σ'.length=σ.length)
  (hslot: ∀(j:Nat) x,s[j]? =some (some x)→(∃v,σ'[j]? =some (some v)∧SlotR κ ({F with s:=s,l:=F.l.set i none}:Fr) H j x v)):Rel κ {F with s:=s,l:=F.l.set i none} σ' H where
 heap:=rel.heap.sub fun a ha=>zhc ha
 slen:=by show s.length=_;rw [hsl,hσ];exact rel.slen
 llen:=by show (F.l.set i none).length=s.length;rw [List.length_set,hsl];exact rel.llen
 linj:=fun j k a h1 h2=>by
  rcases ql h1 with ⟨_,z⟩ | ⟨_,z1⟩
  ·cases z
  ·rcases ql h2 with ⟨_,z⟩ | ⟨_,z2⟩
   ·cases z
   ·exact rel.linj j k a z1 z2
 lt:=fun a ha=>by
  rcases qA ha with z | z
  ·cases z
  ·exact rel.lt a z.1
 lo:=fun a ha=>by
  rcases qA ha with z | z
  ·cases z
  ·exact rel.lo a z.1
 to:=rel.to
 tn:=rel.tn
 slot:=hslot
theorem Rel.slotNe {F:Fr} {i j:Nat} {s:S3} {x:Vl} {v:V} (hn:i≠j) (q:SlotR κ F H j x v):SlotR κ ({F with s:=s,l:=F.l.set i none}:Fr) H j x v:=by
 cases x with
 | v x=>exact Rep.sub (fun a ha=>zhc ha) q
 | m c=>
  obtain ⟨a,h1,h2,h3⟩:=q
  refine ⟨a,?_,h2,h3.sub fun a ha=>zhc ha⟩
  show (F.l.set i none)[j]? =_
  rw [List.getElem?_set,if_neg hn];exact h1
theorem Rel.setV {x:V3} {v:V} (rel:Rel κ F σ H) (hr:Rep κ F.β F.O H x v) (hi:i < F.s.length):Rel κ (F.setV i x) (σ.set i (some v)) H:=by
 refine rel.setGen (by rw [List.length_set]) (by rw [List.length_set]) fun j y hj=>?_
 rcases ql hj with ⟨e,z⟩ | ⟨n,z⟩
 ·subst e;cases z
  refine ⟨v,?_,Rep.sub (fun a ha=>zhc ha) hr⟩
  rw [List.getElem?_set,if_pos rfl,if_pos (by rw [←rel.slen];exact hi)]
 ·obtain ⟨w,h1,h2⟩:=rel.slot j y z
  exact ⟨w,by rw [List.getElem?_set,if_neg n];exact h1,Rel.slotNe n h2⟩
theorem Rel.setN {i:Nat} (rel:Rel κ F σ H):Rel κ (F.setN i) σ H:=by
 refine rel.setGen (by rw [List.length_set]) rfl fun j y hj=>?_
 rcases ql hj with ⟨e,z⟩ | ⟨n,z⟩
 ·cases z
 ·obtain ⟨w,h1,h2⟩:=rel.slot j y z
  exact ⟨w,h1,Rel.slotNe n h2⟩
theorem zh1 {F:Fr} {i:Nat} {s:S3} {a p:Addr} (h:({F with s:=s,l:=F.l.set i (some p)}:Fr).O a):(F.with p).O a:=by
 rcases h with h | h | h
 ·exact .inl (List.mem_cons_of_mem _ h)
 ·rcases qA h with z | z
  ·cases z;exact .inl List.mem_cons_self
  ·exact .inr (.inl z.1)
 ·exact .inr (.inr h)
theorem Rel.setM {c:C3} (rel:Rel κ (F.with p) σ H) (hr:CellR κ F.β (F.with p).O H c p) (hi:i < F.s.length):Rel κ (F.setM i c p) (σ.set i (some (.ref p))) H where
 heap:=rel.heap.sub fun a ha=>zh1 ha
 slen:=by show (F.s.set i _).length=_;rw [List.length_set,List.length_set];exact rel.slen
 llen:=by show (F.l.set i _).length=(F.s.set i _).length;rw [List.length_set,List.length_set];exact rel.llen
 linj:=fun j k a h1 h2=>by
  rcases ql h1 with ⟨e1,z1⟩ | ⟨n1,z1⟩ <;> rcases ql h2 with ⟨e2,z2⟩ | ⟨n2,z2⟩
  ·omega
  ·cases z1;exact absurd List.mem_cons_self (rel.lt p (List.mem_of_getElem? z2))
  ·cases z2;exact absurd List.mem_cons_self (rel.lt p (List.mem_of_getElem? z1))
  ·exact rel.linj j k a z1 z2
 lt:=fun a ha z=>by
  rcases qA ha with q | q
  ·cases q;exact (List.nodup_cons.mp rel.tn).1 z
  ·exact rel.lt a q.1 (List.mem_cons_of_mem _ z)
 lo:=fun a ha=>by
  rcases qA ha with q | q
  ·cases q;exact rel.to p List.mem_cons_self
  ·exact rel.lo a q.1
 to:=fun a ha=>rel.to a (List.mem_cons_of_mem _ ha)
 tn:=(List.nodup_cons.mp rel.tn).2
 slot:=fun j y hj=>by
  rcases ql hj with ⟨e,z⟩ | ⟨n,z⟩
  ·subst e;cases z
   refine ⟨.ref p,?_,p,?_,rfl,hr.sub fun a ha=>zh1 ha⟩
   ·rw [List.getElem?_set,if_pos rfl,if_pos (by rw [←rel.slen];exact hi)]
   ·show (F.l.set i _)[i]? =_
    rw [List.getElem?_set,if_pos rfl,if_pos (by have h:=rel.llen;show i < F.l.length;rw [show F.l.length=F.s.length from h];exact hi)]
  ·obtain ⟨w,h1,h2⟩:=rel.slot j y z
   refine ⟨w,by rw [List.getElem?_set,if_neg n];exact h1,?_⟩
   cases y with
   | v x=>exact Rep.sub (fun a ha=>zh1 ha) h2
   | m c=>
    obtain ⟨a,q1,q2,q3⟩:=h2
    refine ⟨a,?_,q2,q3.sub fun a ha=>zh1 ha⟩
    show (F.l.set i _)[j]? =_
    rw [List.getElem?_set,if_neg n];exact q1
theorem SExt.setN {s:S3} (ht:F.T=[]):SExt F H ({F with s:=s,l:=F.l.set i none}:Fr) H:=
 ⟨Ext.refl,fun a h=>by
  rcases qA h with z | z
  ·cases z
  ·exact .inl z.1,rfl,ht⟩
def Res.bindS {α:Type} (r:Res α) (k:α→H3→O3):O3:=match r with
 | .ok r h=>k r h
 | .ex x h=> .ex x h
 | .no=> .no
theorem bindS {α ω:Type} {K:Kd α ω} {a:S3→H3→Res α} {k:α→H3→O3} (rel:Rel κ F σ H) (ht:F.T=[]) (o:SOut κ E F H D ((a F.s F.h).bindS k)):
  tOf κ E K a σ H (fun w H1=> ∃β1 h1 x,Ext No F.β H β1 H1∧K H (F.to β1 h1) σ H1 x w∧SOut κ E F H D (k x h1)):=by
 refine ⟨F,rel,?_⟩
 cases q:a F.s F.h with
 | no=>rw [q] at o;exact o
 | ex x h1=>rw [q] at o;exact fun β' H' e r=>o (F.to β' h1) H' (SExt.of0 ht e) r
 | ok r h1=>rw [q] at o;exact fun β1 v H1 e p=>⟨β1,h1,r,e,p,o⟩
def sSet (i:Nat) (e:E3):D3:=fun s h=>(e s h).bindS fun r h1=>if i < s.length then .nx (s.set i (some r)) h1 else .no
theorem znc {d:E3} (h:zj κ E (sSet i d) D σ H):zg κ E d σ H (fun v H1=>D.nx (σ.set i (some v)) H1):=by
 obtain ⟨F,rel,ht,o⟩:=h
 refine (bindS (K:=kE κ) rel ht o).mono fun v H1 ⟨β1,h1,r,e1,p1,o⟩=>?_
 by_cases hi:i < F.s.length
 ·rw [if_pos hi] at o
  cases r with
  | v x=>
   obtain ⟨r1,r2⟩:=p1
   exact o ((F.to β1 h1).setV i x) _ H1 ((SExt.of0 (h':=h1) ht e1).trans (SExt.setN ht)) rfl rfl (r1.setV r2 hi)
  | m c=>
   obtain ⟨p,rfl,r1,r2,hp⟩:=p1
   refine o ((F.to β1 h1).setM i c p) _ H1 ?_ rfl rfl (r1.setM r2 hi)
   exact ⟨(SExt.of0 (h':=h1) ht e1).ext,fun a ha=>by
    rcases qA ha with z | z
    ·cases z;exact .inr hp
    ·exact .inl z.1,rfl,ht⟩
 ·rw [if_neg hi] at o;exact o.elim
theorem zjp {x:Str} {pos':Pos} {d:E3} (hN:X.N.Nodup) (hi:X.N[i]? =some x) (hx:qh X.env.scope x) (he:PE X e (zg κ E d)) (hs:swapsWith e (some (.Name x pos')) pos.line X.env=pure false:=by rfl)
 (hf:X.fn x=true∨X.env.scope.names.lookup x=some .local:=by first | exact .inl rfl | exact .inr rfl | assumption):PS X (.Assign [.Name x pos'] e pos) (zj κ E (sSet i d)):=qv (zns hN hi hx he hs hf) fun D σ H h=>znc h
def sExp (e:E3):D3:=fun s h=>(e s h).bindS fun _ h1=> .nx s h1
def sRet (e:E3):D3:=fun s h=>(e s h).bindS fun r h1=> .rt r h1
theorem zP {d:E3} (he:PE X e (zg κ E d)):PS X (.Return (some e) pos) (zj κ E (sRet d)):=qv (znw he) fun D σ H ⟨F,rel,ht,o⟩=>
 (bindS (K:=kE κ) rel ht o).mono fun v H1 ⟨β1,h1,r,e1,p1,o⟩=>o (F.to β1 h1) σ v H1 (SExt.of0 ht e1) rfl (p1.imp fun p hp=> .inr hp)
def sRetN:D3:=fun _ h=> .rt (.v .non) h
theorem Rel.take {c:C3} (rel:Rel κ F σ H) (hl:F.l[i]? =some (some p)):Rel κ ((F.setN i).with p) σ H:=by
 have r1:=rel.setN (i:=i)
 have ho: ∀a,((F.setN i).with p).O a→F.O a:=fun a ha=>by
  rcases ha with z | z
  ·rcases List.mem_cons.mp z with z | z
   ·subst z;exact .inr (.inl (List.mem_of_getElem? hl))
   ·exact .inl z
  ·rcases z with z | z
   ·rcases qA z with w | w
    ·cases w
    ·exact .inr (.inl w.1)
   ·exact .inr (.inr z)
 have hb: ∀a,some a∈F.l.set i none→a≠p:=fun a ha z=>by
  subst z
  rcases qA ha with w | ⟨_,j,hj,w⟩
  ·cases w
  ·exact hj (rel.linj j i a w hl)
 refine ⟨rel.heap.sub ho,r1.slen,r1.llen,r1.linj,fun a ha z=>?_,r1.lo,fun a ha z=>?_,List.nodup_cons.mpr ⟨fun z=>rel.lt p (List.mem_of_getElem? hl) z,rel.tn⟩,fun j y hj=>?_⟩
 ·rcases List.mem_cons.mp z with z | z
  ·exact hb a ha z
  ·exact r1.lt a ha z
 ·rcases List.mem_cons.mp ha with h | h
  ·subst h;exact rel.lo a (List.mem_of_getElem? hl) z
  ·exact rel.to a h z
 ·rcases ql hj with ⟨_,z⟩ | ⟨n,z⟩
  ·cases z
  ·obtain ⟨w,h1,h2⟩:=rel.slot j y z
   refine ⟨w,h1,?_⟩
   cases y with
   | v x=>exact Rep.sub ho h2
   | m c=>
    obtain ⟨a,q1,q2,q3⟩:=h2
    refine ⟨a,?_,q2,q3.sub ho⟩
    show (F.l.set i none)[j]? =_
    rw [List.getElem?_set,if_neg n];exact q1
theorem zp8 {a:Addr} (hl:F.l[i]? =some (some p)) (ha:((F.setN i).with p).O a):F.O a:=by
 rcases ha with z | z
 ·rcases List.mem_cons.mp z with z | z
  ·subst z;exact .inr (.inl (List.mem_of_getElem? hl))
  ·exact .inl z
 ·rcases z with z | z
  ·rcases qA z with w | w
   ·cases w
   ·exact .inr (.inl w.1)
  ·exact .inr (.inr z)
def sRetS (i:Nat):D3:=fun s h=>match s[i]? with
 | some (some r)=> .rt r h
 | _=> .no
theorem zor (hv:PE X e (tVar i)):PS X (.Return (some e) pos) (zj κ E (sRetS i)):=qv (znw hv) fun D σ H ⟨F,rel,ht,o⟩=>by
 unfold sRetS at o
 cases q:F.s[i]? with
 | none=>rw [q] at o;exact o.elim
 | some z=>
  rw [q] at o
  match z,q,o with
  | none,q,o=>exact o.elim
  | some (.v x),q,o=>
   obtain ⟨v,h1,h2⟩:=rel.slot i _ q
   exact ⟨v,h1,o F σ v H (.refl ht) rfl ⟨rel,h2⟩⟩
  | some (.m c),q,o=>
   obtain ⟨v,h1,a,h2,h3,h4⟩:=rel.slot i _ q
   subst h3
   exact ⟨_,h1,o (F.setN i) σ (.ref a) H (SExt.setN ht) rfl ⟨a,rfl,Rel.take (c:=c) rel h2,h4.sub fun b hb=>zp8 h2 hb,.inl (List.mem_of_getElem? h2)⟩⟩
def sFz (i:Nat):D3:=fun s h=>match s[i]? with
 | some (some (.m c))=>match c.fz with
  | some x=> .nx (s.set i (some (.v x))) h
  | none=> .no
 | _=> .nx s h
theorem ztu {d:D3} (h:zj κ E (sSeq (sFz i) d) D σ H):zj κ E d D σ H:=by
 obtain ⟨F,rel,ht,o⟩:=h
 unfold sSeq sFz at o
 have same:(match (F.s[i]? :Option (Option Vl)) with | some (some (.m c))=>False | _=>True)→SOut κ E F H D (d F.s F.h)→zj κ E d D σ H:=fun _ o=>⟨F,rel,ht,o⟩
 cases q:F.s[i]? with
 | none=>rw [q] at o same;exact same trivial o
 | some z=>
  rw [q] at o same
  match z,q,o,same with
  | none,q,o,same=>exact same trivial o
  | some (.v x),q,o,same=>exact same trivial o
  | some (.m c),q,o,same=>
   cases z:c.fz with
   | none=>simp only [z] at o;exact o.elim
   | some x=>
    simp only [z] at o
    obtain ⟨v,h1,a,h2,h3,h4⟩:=rel.slot i _ q
    subst h3
    have hi:i < F.s.length:=(List.getElem?_eq_some_iff.mp q).1
    have rt:=Rel.take (c:=c) rel h2
    have rep:Rep κ F.β (F.setN i).O H x (.ref a):=(h4.sub (O':=(F.setN i).O) fun b hb=>zhc hb).fz z rt.offp rt.apart
    have r2:=(rel.setN (i:=i)).setV (i:=i) (x:=x) (v:= .ref a) rep (by show i < (F.s.set i none).length;rw [List.length_set];exact hi)
    have e1:(F.setN i).setV i x=F.setV i x:=by
     show ({F with s:=(F.s.set i none).set i _,l:=(F.l.set i none).set i none}:Fr)={F with s:=F.s.set i _,l:=F.l.set i none}
     rw [List.set_set,List.set_set]
    have e2:σ.set i (some (.ref a))=σ:=by
     apply List.ext_getElem?;intro j
     rw [List.getElem?_set]
     by_cases hj:i=j
     ·subst hj;rw [if_pos rfl,if_pos (by rw [←rel.slen];exact hi),h1]
     ·rw [if_neg hj]
    rw [e1,e2] at r2
    exact ⟨F.setV i x,r2,ht,SOut.move (SExt.setN ht) o⟩
theorem qd {sts:List Stmt} {d:D3} (i:Nat) (h:zW X sts (zj κ E d)):zW X sts (zj κ E (sSeq (sFz i) d)):=PSsw h fun D σ H q=>ztu q
def sIf (t:T3) (a b:D3):D3:=fun s h=>(t s h).bindS fun c h1=>if c=true then a s h1 else b s h1
theorem z8 {c:Expr} {sa sb:List Stmt} {t:T3} {da db:D3} (hc:PT X c (zA κ E t)) (ha:zW X sa (zj κ E da)) (hb:zW X sb (zj κ E db)):PS X (.If c sa sb pos) (zj κ E (sIf t da db)):=qv (zr5 hc ha hb) fun D σ H ⟨F,rel,ht,o⟩=>
 (bindS (K:=kT κ) rel ht o).mono fun c H1 ⟨β1,h1,x,e1,⟨ec,r1⟩,o1⟩=>by
  subst ec
  have mv:=SExt.of0 (h':=h1) ht e1
  cases c with
  | true=>rw [if_pos rfl] at o1 ⊢;exact ⟨F.to β1 h1,r1,ht,SOut.move mv o1⟩
  | false=>rw [if_neg Bool.false_ne_true] at o1 ⊢;exact ⟨F.to β1 h1,r1,ht,SOut.move mv o1⟩
def sNever:D3:=fun _ _=> .no
abbrev G3:=V3→S3→Option S3
abbrev Gs3:=List V3→S3→Option S3
def gN (i:Nat):G3:=fun x s=>if i < s.length then some (s.set i (some (.v x))) else none
def gsNil:Gs3:=fun xs s=>match xs with
 | []=>some s
 | _=>none
def gsCons (g:G3) (gs:Gs3):Gs3:=fun xs s=>match xs with
 | x::r=>(g x s).bind fun s1=>gs r s1
 | []=>none
def gT (gs:Gs3):G3:=fun x s=>match x with
 | .tup xs=>gs xs s
 | _=>none
def gL (gs:Gs3):G3:=fun x s=>match x with
 | .lst xs=>gs xs s
 | _=>none
def yf (κ:Kx) (g:G3):TG:=fun v σ H Q=> ∃F x s',Rel κ F σ H∧F.T=[]∧Rep κ F.β F.O H x v∧g x F.s=some s'∧∀F' σ',SExt F H F' H→F'.β=F.β→F'.s=s'→F'.h=F.h→Rel κ F' σ' H→Q σ' H
def zm9 (κ:Kx) (g:Gs3):TGs:=fun vs σ H Q=> ∃F xs s',Rel κ F σ H∧F.T=[]∧Reps κ F.β F.O H xs vs∧g xs F.s=some s'∧∀F' σ',SExt F H F' H→F'.β=F.β→F'.s=s'→F'.h=F.h→Rel κ F' σ' H→Q σ' H
theorem PGw {tg:Expr} {t t':TG} (h:PG X tg t) (w: ∀v σ H Q,t' v σ H Q→t v σ H Q):PG X tg t':=fun pins s σ H v u Q I r q=>h pins s σ H v u Q I r (w v σ H Q q)
theorem PGsw {tg:List Expr} {t t':TGs} (h:qr X tg t) (w: ∀v σ H Q,t' v σ H Q→t v σ H Q):qr X tg t':=fun pins s σ H v u Q I r q=>h pins s σ H v u Q I r (w v σ H Q q)
theorem zn2 {a:Addr} {o:HO} (e:SExt F H F' H') (ha:H a=some o) (n: ¬F.O a): ¬F'.O a:=fun z=>by
 rcases z with z | z | z
 ·rw [e.tt] at z;cases z
 ·rcases e.lam a z with w | w
  ·exact n (.inr (.inl w))
  ·rw [ha] at w;cases w
 ·rw [e.oi] at z;exact n (.inr (.inr z))
theorem Rep.sext {x:V3} {v:V} (e:SExt F H F' H') (r:Rep κ F.β F.O H x v):Rep κ F'.β F'.O H' x v:=r.ext e.ext (fun a h=> .inr (.inl h)) fun a o ha n=>zn2 e ha n
theorem Reps.sext {x:List V3} {v:List V} (e:SExt F H F' H') (r:Reps κ F.β F.O H x v):Reps κ F'.β F'.O H' x v:=r.ext e.ext (fun a h=> .inr (.inl h)) fun a o ha n=>zn2 e ha n
theorem zju {tg:Expr} (h:PG X tg (zjc i)):PG X tg (yf κ (gN i)):=PGw h fun v σ H Q ⟨F,x,s',rel,ht,r,e,k⟩=>by
 unfold gN at e
 by_cases hi:i < F.s.length
 ·rw [if_pos hi] at e;cases e
  exact k (F.setV i x) _ (SExt.setN ht) rfl rfl rfl (rel.setV r hi)
 ·rw [if_neg hi] at e;cases e
theorem zla:qr X [] (zm9 κ gsNil):=PGsw zoo fun v σ H Q ⟨F,xs,s',rel,ht,r,e,k⟩=>by
 cases r with
 | nil=>cases e;exact ⟨rfl,k F σ (.refl ht) rfl rfl rfl rel⟩
 | cons _ _=>cases e
theorem zbr {es:List Expr} {g:G3} {gs:Gs3} (h1:PG X e (yf κ g)) (h2:qr X es (zm9 κ gs)) (hh: ∀{t:TG} {u:TGs},PG X e t→qr X es u→qr X (e::es) (zra t u)):qr X (e::es) (zm9 κ (gsCons g gs)):=PGsw (hh h1 h2) fun v σ H Q ⟨F,xs,s',rel,ht,r,e,k⟩=>by
 cases r with
 | nil=>cases e
 | @cons x y xs ys a b=>
  cases q:g x F.s with
  | none=>simp only [gsCons,q] at e;cases e
  | some s1=>
   simp only [gsCons,q] at e
   refine ⟨y,ys,rfl,F,x,s1,rel,ht,a,q,fun F1 σ1 e1 b1 s1' h1 r1=>?_⟩
   have e:gs xs s1=some s':=e
   refine ⟨F1,xs,s',r1,e1.tt,b.sext e1,by rw [s1'];exact e,fun F2 σ2 e2 b2 s2' h2 r2=>?_⟩
   exact k F2 σ2 (e1.trans e2) (b2.trans b1) s2' (h2.trans h1) r2
theorem zne {tg:Expr} {gs:Gs3} {n:Nat} (h:PG X tg (gTup X.K n (zm9 κ gs))) (hn: ∀xs s s',gs xs s=some s'→xs.length=n):PG X tg (yf κ (gT gs)):=PGw h fun v σ H Q ⟨F,x,s',rel,ht,r,e,k⟩=>by
 unfold gT at e
 cases x <;> first | cases e | skip
 cases r with
 | tup h1 h2 h3 h4=>exact ⟨_,_,rfl,.of h1,by rw [←h4.length];exact hn _ _ _ e,F,_,s',rel,ht,h4,e,k⟩
def sAsg (g:G3) (e:E3):D3:=fun s h=>(e s h).bindS fun r h1=>match r.fz with
 | some x=>match g x s with
  | some s1=> .nx s1 h1
  | none=> .no
 | none=> .no
end
structure It3 where
 its:List V3
 xs:List V3
 ok:H3→Prop
def IR (κ:Kx) (it:It3) (vs:List V) (J:It):Prop:=∀(F:Fr) (σ:St) (H:Hp),Rel κ F σ H→Reps κ F.β F.O H it.its vs→it.ok F.h→∀i:Nat,
 (i < it.xs.length→J.go i H∧∀x H',J.yld i H x H'→∃x3,it.xs[i]? =some x3∧Ext No F.β H F.β H'∧Rel κ F σ H'∧Rep κ F.β F.O H' x3 x)∧(it.xs.length≤i→J.stop i H)
abbrev I3:=S3→H3→Res It3
def kI (κ:Kx):Kd It3 It:=fun _ F σ H' it J=>Rel κ F σ H'∧∃vs,Reps κ F.β F.O H' it.its vs∧IR κ it vs J
abbrev tiOf (κ:Kx) (E:XK) (d:I3):TI:=tOf κ E (kI κ) d
open Classical in
def zq (ok:H3→Prop) (g:G3) (b:D3):List V3→S3→H3→O3
 | [],s,h=>if ok h then .nx s h else .no
 | x::r,s,h=>if ok h then match g x s with
  | none=> .no
  | some s1=>match b s1 h with
   | .nx s2 h2=>zq ok g b r s2 h2
   | .ct s2 h2=>zq ok g b r s2 h2
   | .bk s2 h2=> .nx s2 h2
   | o=>o
  else .no
def zB (it:I3) (g:G3) (b:D3):D3:=fun s h=>(it s h).bindS fun I h1=>zq I.ok g b I.xs s h1
open Classical in
section
variable {X:Cx} {κ:Kx} {E:XK} {F F1 F2 F':Fr} {σ σ':St} {H H1 H2 H':Hp} {Q:VK} {p:Addr} {e a b:Expr} {pos:Pos} {i:Nat} {D:Ends}
theorem km_I:zg4 (kI κ):=fun _ _ _ _ _ _ _ _ _ _ _ h=>h
theorem zrz {it:I3} {g:G3} {b:D3} (h:zj κ E (zB it g b) D σ H):tFor (tiOf κ E it) (yf κ g) (zj κ E b) D σ H:=by
 obtain ⟨F,rel,ht,o⟩:=h
 refine (bindS (K:=kI κ) rel ht o).mono fun J H1 ⟨β1,h1,I,e1,⟨r1,vs,rv,ir⟩,o1⟩=>?_
 refine ⟨fun i m σ H=>m=I.xs.length - i∧i≤I.xs.length∧∃Fk,Rel κ Fk σ H∧Fk.T=[]∧Reps κ Fk.β Fk.O H I.its vs∧SOut κ E Fk H D (zq I.ok g b (I.xs.drop i) Fk.s Fk.h),⟨_,rfl,Nat.zero_le _,F.to β1 h1,r1,ht,rv,SOut.move (SExt.of0 (h':=h1) ht e1) o1⟩,?_⟩
 rintro i m σ' H' ⟨rfl,hi,Fk,rk,tk,vk,ok⟩
 by_cases hok:I.ok Fk.h
 case neg=>
  exfalso
  cases q:I.xs.drop i with
  | nil=>rw [q] at ok;unfold zq at ok;rw [if_neg hok] at ok;exact ok
  | cons x r=>rw [q] at ok;unfold zq at ok;rw [if_neg hok] at ok;exact ok
 obtain ⟨i1,i2⟩:=ir Fk σ' H' rk vk hok i
 by_cases hlt:i < I.xs.length
 ·obtain ⟨go,yl⟩:=i1 hlt
  refine .inr ⟨go,fun σ2 H2=> ∃F2,Rel κ F2 σ2 H2∧F2.T=[]∧Reps κ F2.β F2.O H2 I.its vs∧SOut κ E F2 H2 D (zq I.ok g b (I.xs.drop (i+1)) F2.s F2.h),fun σ2 H2 n2=>⟨_,by omega,rfl,hlt,n2⟩,fun x H'' y=>?_⟩
  obtain ⟨x3,ex,ey,ry,rp⟩:=yl x H'' y
  have hd:I.xs.drop i=x3::I.xs.drop (i+1):=by
   rw [List.drop_eq_getElem_cons hlt]
   congr 1
   rw [zR hlt] at ex
   exact Option.some.inj ex
  rw [hd] at ok
  have ok:=SOut.move (SExt.of0 (h':=Fk.h) tk ey) ok
  unfold zq at ok
  rw [if_pos hok] at ok
  cases w:g x3 Fk.s with
  | none=>simp only [w] at ok;exact ok.elim
  | some s1=>
   simp only [w] at ok
   refine ⟨Fk,x3,s1,ry,tk,rp,w,fun F3 σ3 e3 b3 s3 h3 r3=>?_⟩
   refine ⟨F3,r3,e3.tt,?_⟩
   rw [s3,h3]
   have ok:=SOut.move e3 ok
   have ev:Reps κ F3.β F3.O H'' I.its vs:=(vk.ext0 ey).sext e3
   cases q:b s1 Fk.h with
   | nx s2 h2=>simp only [q] at ok;exact fun F4 σ4 H4 e4 s4 h4 r4=>⟨F4,r4,e4.tt,ev.sext e4,by rw [s4,h4];exact SOut.move e4 ok⟩
   | ct s2 h2=>simp only [q] at ok;exact fun F4 σ4 H4 e4 s4 h4 r4=>⟨F4,r4,e4.tt,ev.sext e4,by rw [s4,h4];exact SOut.move e4 ok⟩
   | bk s2 h2=>simp only [q] at ok;exact ok
   | rt r h2=>simp only [q] at ok;exact ok
   | ex x h2=>simp only [q] at ok;exact ok
   | no=>simp only [q] at ok;exact ok
 ·have hi:i=I.xs.length:=by omega
  subst hi
  rw [List.drop_length] at ok
  unfold zq at ok
  rw [if_pos hok] at ok
  exact .inl ⟨i2 (Nat.le_refl _),ok Fk σ' H' (.refl tk) rfl rfl rk⟩
theorem zrg {tg iter:Expr} {body:List Stmt} {it:I3} {g:G3} {b:D3} (hp:PassesOwn (model X.prog X.w) X.A X.env X.xe) (hc:X.calm=true) (hi:PI X tg iter (tiOf κ E it)) (hg:PG X tg (yf κ g)) (hb:zW X body (zj κ E b))
 (hs: ∀x,foldedSetIterable iter X.env x=pure x:=by intro _;rfl):PS X (.For tg iter body [] pos) (zj κ E (zB it g b)):=qv (zrb hp hc hi hg hb hs) fun D σ H h=>zrz h
def zhu (h:H3):V3→Option (List V3×(H3→Prop))
 | .lst xs=>some (xs,fun _=>True)
 | .scr ns=>some (ns.map .int,fun _=>True)
 | .loc n=>match h[n]? with
  | some (.lst xs)=>some (xs,fun h=>h[n]? =some (.lst xs))
  | _=>none
 | _=>none
theorem zqc {F:Fr} {σ:St} {H:Hp} {x:V3} {xs:List V3} {v:V} (rel:Rel κ F σ H) (r:Rep κ F.β F.O H x v) (e:rdl F.s F.h (.x x)=some xs): ∃a ys,v= .ref a∧SqL κ.K H a ys∧Reps κ F.β F.O H xs ys:=zdp (f:= .x x) rel r e
theorem zhs {h:H3} {x:V3} {xs:List V3} {ok:H3→Prop} (e:zhu h x=some (xs,ok)):ok h∧∀s h',ok h'→rdl s h' (.x x)=some xs:=by
 cases x <;> simp [zhu] at e
 case lst zs=>obtain ⟨rfl,rfl⟩:=e;exact ⟨trivial,fun _ _ _=>rfl⟩
 case scr ns=>obtain ⟨rfl,rfl⟩:=e;exact ⟨trivial,fun _ _ _=>rfl⟩
 case loc n=>
  cases q:h[n]? with
  | none=>rw [q] at e;cases e
  | some c=>
   rw [q] at e
   cases c <;> simp at e
   obtain ⟨rfl,rfl⟩:=e
   exact ⟨q,fun s h' hh=>by simp only [rdl,hh]⟩
theorem zkv {F:Fr} {σ:St} {H:Hp} {h:H3} {x:V3} {xs:List V3} {ok:H3→Prop} {v:V} (e:zhu h x=some (xs,ok)) (rel:Rel κ F σ H) (r:Rep κ F.β F.O H x v) (hk:ok F.h): ∃a ys,v= .ref a∧SqL κ.K H a ys∧Reps κ F.β F.O H xs ys:=zqc rel r ((zhs e).2 _ _ hk)
theorem PIw {tg iter:Expr} {t t':TI} (h:PI X tg iter t) (w: ∀σ H R,t' σ H R→t σ H R):PI X tg iter t':=fun pins s σ H R I q=>h pins s σ H R I (w σ H R q)
def iL (p:P3):I3:=fun s h=>(p s h).bind fun f h1=>match f with
 | .x x=>match zhu h1 x with
  | some (xs,ok)=> .ok ⟨[x],xs,ok⟩ h1
  | none=> .no
 | _=> .no
theorem zpp {tg l:Expr} {d:P3} (hK:X.K=κ.K) (hl:PE X l (zh κ E d)):PI X tg l (tiOf κ E (iL d)):=PIw (zpu hl) fun σ H R ⟨F,rel,o⟩=>
 (zN (K:=kP κ) km_I rel o).mono fun v H1 ⟨β1,h1,f,e1,⟨r1,rf⟩,o1⟩=>by
  rw [hK]
  match f,rf,o1 with
  | .s _,rf,o1=>exact o1.elim
  | .x x,rf,o1=>
   cases q:zhu h1 x with
   | none=>simp only [q] at o1;exact o1.elim
   | some w=>
    obtain ⟨xs,ok⟩:=w
    simp only [q] at o1
    have rf:Rep κ β1 F.O H1 x v:=rf
    obtain ⟨a,ys,ev,sq,rs⟩:=zkv (F:=F.to β1 h1) q r1 rf (zhs q).1
    subst ev
    refine ⟨a,rfl,⟨ys,sq⟩,o1 β1 _ H1 Ext.refl ⟨r1,[.ref a],.cons rf .nil,fun F' σ' H' rel' r' hk i=>?_⟩⟩
    cases r' with
    | cons r'' _=>
     obtain ⟨a',ys',ev',sq',rs'⟩:=zkv q rel' r'' hk
     cases ev'
     refine ⟨fun hi=>⟨?_,fun y H' ⟨e,yl⟩=>?_⟩,fun hi=>⟨ys',sq',by rw [←rs'.length];exact hi⟩⟩
     ·obtain ⟨y,hy,_⟩:=rs'.get (i:=i) (zR hi)
      exact ⟨ys',y,sq',hy⟩
     ·subst e
      obtain ⟨x3,h1,h2⟩:=rs'.get' (yl ys' sq')
      exact ⟨x3,h1,Ext.refl,rel',h2⟩
end
end L3
namespace L3
open PySem PySem.Spec PyProof.Rows L2
abbrev F3:=List V3→H3→Res Vl
def start3 (n:Nat) (vs:List V3):S3:=vs.map (fun x=>some (.v x))++List.replicate (n - vs.length) none
def O3.res:O3→Res Vl
 | .nx _ h=> .ok (.v .non) h
 | .rt r h=> .ok r h
 | .ex x h=> .ex x h
 | _=> .no
def fun3 (k n:Nat) (b:D3):F3:=fun vs h=>if vs.length=k then (b (start3 n vs) h).res else .no
def ztq (κ:Kx) (N:Addr→Prop) (O:Addr→Prop) (β:List (Option Addr)) (h:H3) (H:Hp):Vl→V→Prop
 | .v x,v=>RelH κ O β h H∧Rep κ β O H x v
 | .m c,v=> ∃p,v= .ref p∧RelH κ (fun a=>a=p∨O a) β h H∧CellR κ β (fun a=>a=p∨O a) H c p∧N p∧¬O p
def FOut (κ:Kx) (E:XK) (O:Addr→Prop) (β:List (Option Addr)) (H:Hp) (Q:VK):Res Vl→Prop
 | .ok r h'=> ∀β' v H',Ext No β H β' H'→ztq κ (Nw H) O β' h' H' r v→Q v H'
 | .ex x h'=> ∀β' H',Ext No β H β' H'→RelH κ O β' h' H'→XOk κ E x β' O H'
 | .no=>False
def zo (κ:Kx) (k:Nat) (f:F3):Sp:=fun vs H Q E=> ∃O β vs3 h3,vs.length=k∧RelH κ O β h3 H∧Reps κ β O H vs3 vs∧FOut κ E O β H Q (f vs3 h3)
section
variable {X:Cx} {κ:Kx} {E:XK} {F F1 F2 F':Fr} {σ σ':L2.St} {H H1 H2 H':Hp} {Q:VK} {p:Addr} {e a b o:Expr} {pos apos np:Pos} {i:Nat} {D:Ends}
theorem qg {a:Addr} {n:Nat}:some a∉List.replicate n (none:Option Addr):=fun h=>by cases (List.mem_replicate.mp h).2
theorem ziq {n:Nat} {vs3:List V3} {i:Nat} {x:Vl} (h:(start3 n vs3)[i]? =some (some x)): ∃y,vs3[i]? =some y∧x= .v y:=by
 unfold start3 at h
 by_cases hi:i < vs3.length
 ·rw [List.getElem?_append_left (by simpa using hi),List.getElem?_map] at h
  cases q:vs3[i]? with
  | none=>rw [q] at h;cases h
  | some y=>rw [q] at h;cases h;exact ⟨y,rfl,rfl⟩
 ·rw [List.getElem?_append_right (by simpa using hi)] at h
  have:=List.mem_replicate.mp (List.mem_of_getElem? h)
  cases this.2
theorem zgn {O:Addr→Prop} {β:List (Option Addr)} {vs3:List V3} {vs:List V} {h3:H3} {N:List Str} (rh:RelH κ O β h3 H) (rv:Reps κ β O H vs3 vs) (hN:vs.length≤N.length):
  Rel κ ⟨O,[],β,List.replicate N.length none,start3 N.length vs3,h3⟩ (L2.start N vs) H:=by
 have hO: ∀a,(⟨O,[],β,List.replicate N.length none,start3 N.length vs3,h3⟩:Fr).O a→O a:=fun a ha=>by
  rcases ha with z | z | z
  ·cases z
  ·exact absurd z qg
  ·exact z
 have hl:=rv.length
 refine ⟨rh.sub hO,?_,?_,fun i j a h=>?_,fun a ha=>absurd ha qg,fun a ha=>absurd ha qg,fun a ha=>(by cases ha),List.nodup_nil,fun i x hx=>?_⟩
 ·show (start3 N.length vs3).length=_
  unfold start3 L2.start
  simp only [List.length_append,List.length_map,List.length_replicate];omega
 ·show (List.replicate N.length (none:Option Addr)).length=(start3 N.length vs3).length
  unfold start3
  simp only [List.length_append,List.length_map,List.length_replicate];omega
 ·exact absurd (List.mem_of_getElem? h) qg
 ·obtain ⟨y,hy,rfl⟩:=ziq hx
  obtain ⟨v,hv,r⟩:=rv.get hy
  refine ⟨v,?_,Rep.sub hO r⟩
  unfold L2.start
  have hi:i < vs.length:=(List.getElem?_eq_some_iff.mp hv).1
  rw [List.getElem?_append_left (by simpa using hi),List.getElem?_map,hv];rfl
theorem yx {P:Program} {w:World} {K:PySem.W.Frag} {mg:Str→Option Value} {base:Heap} {x qual:Str} {st:Stmt} {f:Addr} {fd:FuncData} {N ps:List Str} {k:Nat} {b:D3} (Fn:Fun K x qual st f fd) (S:FnScope N ps (zx st))
  (hb: ∀(cdv:Value) (A:Around) (outer:List Env) (s:Shared) (H:Hp) (E:XK),Room k (A.deeper (envOfC qual (zx st) s.heap.objs.size f cdv))→
   zW (zK (XT P w) P w K mg base N qual (zx st) f cdv A outer s H E) (zcn st) (zj κ E b)):FnOk P w K mg base (XT P w) (k+1) f fd ps (zo κ ps.length (fun3 ps.length N.length b)):=by
 refine Fn.okX S (fun vs H Q E h=>?_) fun cdv A outer s H vs Q E hr h=>?_
 ·obtain ⟨_,_,_,_,h,_⟩:=h;exact h
 ·obtain ⟨O,β,vs3,h3,hl,rh,rv,o⟩:=h
  have hpl:ps.length≤N.length:=by have:=congrArg List.length S.pre;rw [List.length_take] at this;omega
  have rel:=zgn (N:=N) rh rv (by omega)
  refine ⟨zj κ E b,hb cdv A outer s H E hr,_,rel,rfl,?_⟩
  unfold fun3 at o
  rw [if_pos (by rw [rv.length];exact hl)] at o
  generalize hF:(⟨O,[],β,List.replicate N.length none,start3 N.length vs3,h3⟩:Fr)=F0 at rel
  have e0:F0.s=start3 N.length vs3∧F0.h=h3∧F0.β=β∧F0.Oi=O∧∀a,some a∉F0.l:=by subst hF;exact ⟨rfl,rfl,rfl,rfl,fun a=>qg⟩
  obtain ⟨es,eh,eb,eo,el⟩:=e0
  rw [es,eh]
  have ext: ∀{F':Fr} {H':Hp},SExt F0 H F' H'→Ext No β H F'.β H':=fun {F' H'} se=>⟨fun a u h n _=>se.ext.keep a u h (by rw [eb];exact n) (el a),by rw [←eb];exact se.ext.len,fun i a hi h=>by
   have:=se.ext.bet i a (by rw [eb];exact hi) h
   rw [eb] at this;exact this,se.ext.there,fun i a hi h=>se.ext.nwb i a (by rw [eb];exact hi) h⟩
  have hO: ∀{F':Fr} {H':Hp},SExt F0 H F' H'→∀a,O a→F'.O a:=fun {F' H'} se a ha=> .inr (.inr (by rw [se.oi,eo];exact ha))
  cases q:b (start3 N.length vs3) h3 with
  | nx s1 h1=>
   rw [q] at o
   exact fun F' σ' H' se _ h' r'=>o F'.β .non H' (ext se) ⟨by rw [←h'];exact r'.heap.sub (hO se),.non⟩
  | rt r h1=>
   rw [q] at o
   intro F' σ' v H' se h' p
   refine o F'.β v H' (ext se) ?_
   cases r with
   | v x=>exact ⟨by rw [←h'];exact p.1.heap.sub (hO se),Rep.sub (hO se) p.2⟩
   | m c=>
    obtain ⟨p,h1,h2,h3',h4⟩:=p
    have hs: ∀a,a=p∨O a→(F'.with p).O a:=fun a ha=>ha.elim (fun z=> .inl (by rw [z];exact List.mem_cons_self)) fun z=>Fr.O_with (hO se a z)
    refine ⟨p,h1,by rw [←h'];exact h2.heap.sub hs,h3'.sub hs,h4.elim (fun z=>absurd z (el p)) id,fun z=>h2.apart (hO se p z)⟩
  | bk s1 h1=>rw [q] at o;exact (show False from o).elim
  | ct s1 h1=>rw [q] at o;exact (show False from o).elim
  | no=>rw [q] at o;exact o
  | ex x h1=>
   rw [q] at o
   intro F' H' se r'
   have z:=o F'.β H' (ext se) (by rw [se.oi,eo] at r';exact r')
   rw [se.oi,eo];exact z
theorem Rel.nextNew {β':List (Option Addr)} {h':H3} (r:Rel κ F σ H) (e:Ext No F.β H β' H') (rh:RelH κ (fun a=>a=p∨F.O a) β' h' H') (hp:H p=none):Rel κ ((F.to β' h').with p) σ H':=by
 have n2: ¬F.O p:=(r.heap.off_new hp).2
 have ho: ∀a,((F.to β' h').with p).O a→a=p∨F.O a:=fun a ha=>by
  rcases ha with z | z
  ·rcases List.mem_cons.mp z with z | z
   ·exact .inl z
   ·exact .inr (.inl z)
  ·exact .inr (.inr z)
 have hO: ∀a u,H a=some u→¬F.O a→¬((F.to β' h').with p).O a:=fun a u ha n z=>(ho a z).elim (fun w=>by subst w;rw [hp] at ha;cases ha) n
 refine ⟨rh.sub ho,r.slen,r.llen,r.linj,fun a ha z=>?_,r.lo,fun a ha z=>?_,List.nodup_cons.mpr ⟨fun z=>n2 (.inl z),r.tn⟩,fun i x q=>?_⟩
 ·rcases List.mem_cons.mp z with z | z
  ·subst z;exact n2 (.inr (.inl ha))
  ·exact r.lt a ha z
 ·rcases List.mem_cons.mp ha with h | h
  ·subst h;exact n2 (.inr (.inr z))
  ·exact r.to a h z
 ·obtain ⟨v,h1,h2⟩:=r.slot i x q
  refine ⟨v,h1,?_⟩
  cases x with
  | v x=>exact Rep.ext e (fun _ z=>z.elim) hO h2
  | m c=>
   obtain ⟨a,a1,a2,a3⟩:=h2
   have ha:F.O a:= .inr (.inl (List.mem_of_getElem? a1))
   exact ⟨a,a1,a2,a3.ext e (fun _ z=>z.elim) hO fun u hu=>(e.keep a u hu (r.heap.off a ha) fun z=>z).1⟩
theorem FOut.of {r:Res Vl} (rel:Rel κ F σ H) (o:Out κ E (kE κ) F σ H Q r):FOut κ E F.O F.β H Q r:=by
 cases r with
 | no=>exact o
 | ex x h'=>exact fun β' H' e r'=>(o β' H' e (r'.sub fun a ha=> .inr (.inr ha))).sub fun a ha=> .inr (.inr ha)
 | ok r h'=>
  intro β' v H' e q
  refine o β' v H' e ?_
  cases r with
  | v x=>exact ⟨rel.next e q.1,q.2⟩
  | m c=>
   obtain ⟨p,h1,h2,h3,h4,h5⟩:=q
   have ho: ∀a,((F.to β' h').with p).O a→a=p∨F.O a:=fun a ha=>by
    rcases ha with z | z
    ·rcases List.mem_cons.mp z with z | z
     ·exact .inl z
     ·exact .inr (.inl z)
    ·exact .inr (.inr z)
   exact ⟨p,h1,rel.nextNew e h2 h4,h3.sub ho,h4⟩
def eCall (f:F3) (a:A3):E3:=fun s h=>(a s h).bind fun fs h1=>match vals3 fs with
 | some vs=>f vs h1
 | none=> .no
def zu (f:F3) (k:Nat):Prop:=∀vs h,vs.length≠k→f vs h= .no
theorem zG {k n:Nat} {b:D3}:zu (fun3 k n b) k:=fun vs h e=>if_neg e
theorem zli {f:F3} {t:A3} {k:Nat} (hf:zu f k) (h:zg κ E (eCall f t) σ H Q):zje (zo κ k f) [] E (zw κ E t) σ H Q:=by
 obtain ⟨F,rel,o⟩:=h
 refine (zN (K:=kA κ) zy rel o).mono fun vs H1 ⟨β1,h1,fs,e1,⟨r1,rf1⟩,o1⟩=>?_
 cases q:vals3 fs with
 | none=>simp only [q] at o1;exact o1.elim
 | some xs=>
  simp only [q] at o1
  have hr:=zc9 rf1 q
  rw [List.append_nil]
  refine ⟨F.O,β1,xs,h1,?_,r1.heap,hr,FOut.of r1 o1⟩
  refine Classical.byContradiction fun n=>?_
  rw [hf xs h1 (by rw [hr.length];exact n)] at o1
  exact o1
theorem znh {x:Str} {es:List Expr} {f:F3} {t:A3} {k:Nat} {fa:Addr} {fd:FuncData} {ps:List Str} {n:Nat} (hf:zu f n) (Fk:FnOk X.prog X.w X.K X.mg X.base (XT X.prog X.w) k fa fd ps (zo κ n f)) (hr:Room k X.A) (hg:Gl X x) (hm:X.mg x=some (.ref fa)) (hk:PySem.W.keepIn X.K (.ref fa)=true) (hb:Binds X.K fd ps []) (hx:zff (XT X.prog X.w) X E)
 (ha:PA X (e::es) (zw κ E t)) (hdb:(x==("__debug__" :Str))=false:=by decide) (he:starEach (e::es) X.env=(false,eval e X.env)::starEach es X.env:=by rfl) (hpl:(backTo pos (starEach es X.env)).any (·.1)=false:=by rfl):
 PE X (.Call (.Name x np) (e::es) [] pos) (zg κ E (eCall f t)):=yh (zp7 Fk hr hg hm hk hb .nil hx ha hdb he hpl) fun _ _ _ h=>zli hf h
theorem ztn:zff (XT X.prog X.w) X E0:=fun pins σ H s e s' I h=>by
 obtain ⟨_,_,_,_,_,_,_,_,_,_,_,_,_,_,_,_,q⟩:=h
 exact q.elim
end
section
variable {X:Cx} {κ:Kx} {E:XK} {F:Fr} {σ:L2.St} {H H':Hp} {Q:VK} {p:Addr} {pos:Pos} {i:Nat}
def oI (g:Int→Int→Option V3):F2:=fun _ _ x y=>match x,y with
 | .x (.int i),.x (.int j)=>(g i j).map .v
 | _,_=>none
theorem zjz {g:Int→Int→Option V3} {s:S3} {h:H3} {x y:Rf} {z:Vl} (e:oI g s h x y=some z): ∃i j w,x= .x (.int i)∧y= .x (.int j)∧g i j=some w∧z= .v w:=by
 unfold oI at e
 split at e
 ·rename_i i j
  cases q:g i j with
  | none=>rw [q] at e;cases e
  | some w=>rw [q] at e;cases e;exact ⟨i,j,w,rfl,rfl,q,rfl⟩
 ·cases e
theorem zey {gv:Int→Int→V} {g:Int→Int→Option V3} (hg: ∀i j z,g i j=some z→∀β O H,Rep κ β O H z (gv i j)):OpSim κ (yP gv) (oI g):=fun F σ H x y z v w Q rel rx ry e k=>by
 obtain ⟨i,j,u,rfl,rfl,q,rfl⟩:=zjz e
 cases (show Rep κ F.β F.O H (.int i) v from rx)
 cases (show Rep κ F.β F.O H (.int j) w from ry)
 exact ⟨i,j,rfl,rfl,k _ H Ext.refl ⟨rel,hg i j u q _ _ _⟩⟩
theorem zh5 {C:Int→Int→Prop} {gv:Int→Int→V} {g:Int→Int→Option V3} (hg: ∀i j z,g i j=some z→C i j∧∀β O H,Rep κ β O H z (gv i j)):OpSim κ (rI C gv) (oI g):=fun F σ H x y z v w Q rel rx ry e k=>by
 obtain ⟨i,j,u,rfl,rfl,q,rfl⟩:=zjz e
 cases (show Rep κ F.β F.O H (.int i) v from rx)
 cases (show Rep κ F.β F.O H (.int j) w from ry)
 exact ⟨i,j,rfl,rfl,(hg i j u q).1,k _ H Ext.refl ⟨rel,(hg i j u q).2 _ _ _⟩⟩
instance {i j:Int}:Decidable (CMul i j):=inferInstanceAs (Decidable (_∨_))
instance {i j:Int}:Decidable (CDiv i j):=inferInstanceAs (Decidable (_∧_))
instance {i j:Int}:Decidable (CPow i j):=inferInstanceAs (Decidable (_∧_))
def zkw:F2:=oI fun i j=>some (.int (i+j))
def zY:F2:=oI fun i j=>some (.int (i - j))
def zpo:F2:=oI fun i j=>if CMul i j then some (.int (i*j)) else none
def oDiv:F2:=oI fun i j=>if CDiv i j then some (.int (i / j)) else none
def zn:F2:=oI fun i j=>if 0 < j then some (.int (i % j)) else none
def zF:F2:=oI fun i j=>if CPow i j then some (.int (i ^ j.toNat)) else none
def oShr:F2:=oI fun i j=>if 0≤j then some (.int (i / 2 ^ j.toNat)) else none
def zs1:F2:=oI fun i j=>some (.int (Builtin.bitAnd i j))
def oLt:F2:=oI fun i j=>some (.bl (decide (i < j)))
def oLe:F2:=oI fun i j=>some (.bl (decide (i≤j)))
def oGt:F2:=oI fun i j=>some (.bl (decide (j < i)))
def oGe:F2:=oI fun i j=>some (.bl (decide (j≤i)))
theorem sim_addI:OpSim κ (yP fun i j=> .int (i+j)) zkw:=zey fun i j z e=>by cases e;exact fun _ _ _=> .int _
theorem zdx:OpSim κ (yP fun i j=> .int (i - j)) zY:=zey fun i j z e=>by cases e;exact fun _ _ _=> .int _
theorem znv:OpSim κ (yP fun i j=> .bl (decide (i < j))) oLt:=zey fun i j z e=>by cases e;exact fun _ _ _=> .bl _
theorem zfl:OpSim κ (yP fun i j=> .bl (decide (i≤j))) oLe:=zey fun i j z e=>by cases e;exact fun _ _ _=> .bl _
theorem zkk:OpSim κ (yP fun i j=> .bl (decide (j < i))) oGt:=zey fun i j z e=>by cases e;exact fun _ _ _=> .bl _
theorem qq {c:Prop} [Decidable c] {α:Type} {x z:α} (e:(if c then some x else none)=some z):c∧x=z:=by
 by_cases h:c
 ·rw [if_pos h] at e;exact ⟨h,Option.some.inj e⟩
 ·rw [if_neg h] at e;cases e
theorem sim_mulI:OpSim κ (rI CMul fun i j=> .int (i*j)) zpo:=zh5 fun i j z e=>by obtain ⟨h,rfl⟩:=qq e;exact ⟨h,fun _ _ _=> .int _⟩
theorem zkj:OpSim κ (rI CDiv fun i j=> .int (i / j)) oDiv:=zh5 fun i j z e=>by obtain ⟨h,rfl⟩:=qq e;exact ⟨h,fun _ _ _=> .int _⟩
theorem yp:OpSim κ (rI (fun _ j=>0 < j) fun i j=> .int (i % j)) zn:=zh5 fun i j z e=>by obtain ⟨h,rfl⟩:=qq e;exact ⟨h,fun _ _ _=> .int _⟩
theorem zc8:OpSim κ (rI CPow fun i j=> .int (i ^ j.toNat)) zF:=zh5 fun i j z e=>by obtain ⟨h,rfl⟩:=qq e;exact ⟨h,fun _ _ _=> .int _⟩
def yN (f g:F2):F2:=fun s h x y=>match f s h x y with
 | some z=>some z
 | none=>g s h x y
theorem OpSim.or {r r':R2} {f g:F2} (hf:OpSim κ r f) (hg:OpSim κ r' g):OpSim κ (fun x y H Q=>r x y H Q∨r' x y H Q) (yN f g):=fun F σ H x y z v w Q rel rx ry e k=>by
 unfold yN at e
 cases q:f F.s F.h x y with
 | some u=>rw [q] at e;cases e;exact .inl (hf F σ H x y _ v w Q rel rx ry q k)
 | none=>rw [q] at e;exact .inr (hg F σ H x y z v w Q rel rx ry e k)
def zkq:F2:=fun _ _ x y=>match x,y with
 | .x (.str i),.x (.str j)=>if i.length+j.length≤sizeLine then some (.v (.str (i++j))) else none
 | _,_=>none
theorem sim_addS:OpSim κ (fun x y H Q=> ∃i j,x= .str i∧y= .str j∧i.length+j.length≤sizeLine∧Q (.str (i++j)) H) zkq:=fun F σ H x y z v w Q rel rx ry e k=>by
 unfold zkq at e
 split at e
 ·rename_i i j
  obtain ⟨h,rfl⟩:=qq e
  cases (show Rep κ F.β F.O H (.str i) v from rx)
  cases (show Rep κ F.β F.O H (.str j) w from ry)
  exact ⟨i,j,rfl,rfl,h,k _ H Ext.refl ⟨rel,.str _⟩⟩
 ·cases e
def rdm (s:S3) (h:H3):Rf→Option (List V3)
 | .x (.scr _)=>none
 | f=>rdl s h f
theorem zen {f:Rf} {v:V} {xs:List V3} (rel:Rel κ F σ H) (r:RfR κ F H f v) (e:rdm F.s F.h f=some xs): ∃a ys,v= .ref a∧H a=some (.lst ys)∧Reps κ F.β F.O H xs ys:=by
 cases f with
 | s i=>
  have e:rdl F.s F.h (.s i)=some xs:=e
  obtain ⟨a,c,h1,h2,h3,h4⟩:=r
  simp only [rdl,h3] at e
  cases c <;> simp at e
  subst e
  obtain ⟨ys,h5,h6⟩:=h4
  exact ⟨a,ys,h2,h5,h6⟩
 | x y=>
  cases y <;> simp [rdm,rdl] at e
  case lst zs=>
   subst e
   cases r with
   | lst h1 h2 h3 h4=>exact ⟨_,_,rfl,h1,h4⟩
  case loc n=>
   cases r with
   | loc h1 h2=>
    cases q:F.h[n]? with
    | none=>rw [q] at e;cases e
    | some c=>
     rw [q] at e
     cases c <;> simp at e
     subst e
     rcases rel.heap.cell n _ q with z | ⟨a,ha,ys,h5,h6⟩
     ·cases z
     ·exact ⟨a,ys,h2 a ha,h5,h6⟩
def oCat:F2:=fun s h x y=>match rdm s h x,rdm s h y with
 | some xs,some ys=>if xs.length+ys.length≤sizeLine then some (.m (.lst (xs++ys))) else none
 | _,_=>none
theorem zoc:OpSim κ rCat oCat:=fun F σ H x y z v w Q rel rx ry e k=>by
 unfold oCat at e
 cases q1:rdm F.s F.h x with
 | none=>rw [q1] at e;cases e
 | some xs=>
  cases q2:rdm F.s F.h y with
  | none=>rw [q1,q2] at e;cases e
  | some ys=>
   rw [q1,q2] at e
   obtain ⟨h,rfl⟩:=qq e
   obtain ⟨a,us,rfl,ha,ra⟩:=zen rel rx q1
   obtain ⟨b,ws,rfl,hb,rb⟩:=zen rel ry q2
   exact ⟨a,b,us,ws,rfl,rfl,ha,hb,by rw [←ra.length,←rb.length];exact h,fun p hp=>k _ _ (yj hp) (Post.lst rel hp (ra.append rb))⟩
def zl:F2:=yN zkw (yN zkq oCat)
theorem yi:OpR X (binaryOp .Add) (fun x y H Q=>(yP fun i j=> .int (i+j)) x y H Q∨((fun x y H Q=> ∃i j,x= .str i∧y= .str j∧i.length+j.length≤sizeLine∧Q (.str (i++j)) H) x y H Q∨rCat x y H Q)):=op_add.or (op_add_str.or zsb)
theorem ym:OpSim κ (fun x y H Q=>(yP fun i j=> .int (i+j)) x y H Q∨((fun x y H Q=> ∃i j,x= .str i∧y= .str j∧i.length+j.length≤sizeLine∧Q (.str (i++j)) H) x y H Q∨rCat x y H Q)) zl:=sim_addI.or (sim_addS.or zoc)
def oRep:F2:=fun s h x y=>match rdm s h x,y with
 | some xs,.x (.int k)=>if -(2 ^ 63)≤k∧k < 2 ^ 63∧xs.length*k.toNat≤sizeLine then some (.m (.lst (List.replicate k.toNat xs).flatten)) else none
 | _,_=>none
theorem zpk:OpSim κ rRep oRep:=fun F σ H x y z v w Q rel rx ry e k=>by
 unfold oRep at e
 split at e
 ·rename_i xs n q
  obtain ⟨⟨h1,h2,h3⟩,rfl⟩:=qq e
  obtain ⟨a,us,rfl,ha,ra⟩:=zen rel rx q
  cases (show Rep κ F.β F.O H (.int n) w from ry)
  exact ⟨a,n,us,rfl,rfl,ha,h1,h2,by rw [←ra.length];exact h3,fun p hp=>k _ _ (yj hp) (Post.lst rel hp (ra.rep _))⟩
 ·cases e
def zC:F2:=yN zpo oRep
theorem yX:OpR X (binaryOp .Mult) (fun x y H Q=>(rI CMul fun i j=> .int (i*j)) x y H Q∨rRep x y H Q):=op_mul.or zsa
theorem y9:OpSim κ (fun x y H Q=>(rI CMul fun i j=> .int (i*j)) x y H Q∨rRep x y H Q) zC:=sim_mulI.or zpk
theorem Reps.atI {xs:List V3} {ys:List V} {i:Int} {x:V3} (r:Reps κ F.β F.O H xs ys) (e:atI xs i=some x): ∃y,L2.atI ys i=some y∧Rep κ F.β F.O H x y:=by
 unfold L2.atI at e ⊢
 rw [←r.length]
 cases q:yn xs.length i with
 | none=>rw [q] at e;cases e
 | some j=>
  rw [q] at e
  exact r.get e
def oIxL:F2:=fun s h x y=>match y with
 | .x (.int i)=>match rdl s h x with
  | some xs=>(atI xs i).map .v
  | none=>none
 | _=>none
def oIxT:F2:=fun _ _ x y=>match x,y with
 | .x (.tup xs),.x (.int i)=>(atI xs i).map .v
 | _,_=>none
def oIxS:F2:=fun _ _ x y=>match x,y with
 | .x (.str z),.x (.int i)=>if z.length≤sizeLine then (atI z.cps.toList i).map fun c=> .v (.str ⟨#[c]⟩) else none
 | _,_=>none
theorem sim_ixL:OpSim κ (rIxL κ.K) oIxL:=fun F σ H x y z v w Q rel rx ry e k=>by
 unfold oIxL at e
 split at e
 ·rename_i i
  cases (show Rep κ F.β F.O H (.int i) w from ry)
  cases q:rdl F.s F.h x with
  | none=>rw [q] at e;cases e
  | some xs=>
   rw [q] at e
   cases q2:atI xs i with
   | none=>simp only [q2] at e;cases e
   | some u=>
    simp only [q2] at e;cases e
    obtain ⟨a,us,rfl,sq,ra⟩:=zdp rel rx q
    obtain ⟨y,hy,ry'⟩:=Reps.atI ra q2
    exact ⟨a,us,i,y,rfl,rfl,sq,hy,k _ H Ext.refl ⟨rel,ry'⟩⟩
 ·cases e
theorem sim_ixT:OpSim κ (rIxT κ.K) oIxT:=fun F σ H x y z v w Q rel rx ry e k=>by
 unfold oIxT at e
 split at e
 ·rename_i xs i
  cases (show Rep κ F.β F.O H (.int i) w from ry)
  cases q2:atI xs i with
  | none=>rw [q2] at e;cases e
  | some u=>
   rw [q2] at e;cases e
   cases (show Rep κ F.β F.O H (.tup xs) v from rx) with
   | tup h1 h2 h3 h4=>
    obtain ⟨y,hy,ry'⟩:=Reps.atI h4 q2
    exact ⟨_,_,i,y,rfl,rfl,.of h1,hy,k _ H Ext.refl ⟨rel,ry'⟩⟩
 ·cases e
theorem zoy:OpSim κ rIxS oIxS:=fun F σ H x y z v w Q rel rx ry e k=>by
 unfold oIxS at e
 split at e
 ·rename_i zz i
  cases (show Rep κ F.β F.O H (.int i) w from ry)
  cases (show Rep κ F.β F.O H (.str zz) v from rx)
  obtain ⟨h,e⟩:zz.length≤sizeLine∧((atI zz.cps.toList i).map fun c=>Vl.v (.str ⟨#[c]⟩))=some z:=by
   by_cases h:zz.length≤sizeLine
   ·rw [if_pos h] at e;exact ⟨h,e⟩
   ·rw [if_neg h] at e;cases e
  cases q2:atI zz.cps.toList i with
  | none=>rw [q2] at e;cases e
  | some c=>
   rw [q2] at e;cases e
   exact ⟨zz,i,c,rfl,rfl,h,q2,k _ H Ext.refl ⟨rel,.str _⟩⟩
 ·cases e
def zE:F2:=yN oIxT (yN oIxL oIxS)
theorem znp (hK:X.K=κ.K):IxR X (fun x y H Q=>rIxT κ.K x y H Q∨(fun x y H Q=>rIxL κ.K x y H Q∨rIxS x y H Q) x y H Q):=by
 rw [←hK];exact ix_tup.or (ix_list.or zry)
theorem zn6:OpSim κ (fun x y H Q=>rIxT κ.K x y H Q∨(fun x y H Q=>rIxL κ.K x y H Q∨rIxS x y H Q) x y H Q) zE:=sim_ixT.or (sim_ixL.or zoy)
def oIsN (neg:Bool):F2:=fun _ _ x y=>match x,y with
 | .x .non,.x .non=>some (.v (.bl (!neg)))
 | .x (.loc _),_=>none
 | .x _,.x .non=>some (.v (.bl neg))
 | .s _,.x .non=>some (.v (.bl neg))
 | _,_=>none
end
inductive K3 where
 | f (a:V) | l (xs:List V3) | t (xs:List V3) | o
def zL (h:H3):V3→K3
 | .non=> .f .non
 | .bl b=> .f (.bl b)
 | .int i=> .f (.int i)
 | .str x=> .f (.str x)
 | .lst xs=> .l xs
 | .tup xs=> .t xs
 | .loc n=>match h[n]? with
  | some (.lst xs)=> .l xs
  | _=> .o
 | _=> .o
def z4 (f:V3→V3→Option Bool):List V3→List V3→Option Bool
 | x::xs,y::ys=>match f x y,z4 f xs ys with
  | some a,some b=>some (a && b)
  | _,_=>none
 | _,_=>some true
def emD:V3→Bool
 | .dT []=>true
 | _=>false
def zp (h:H3):Nat→V3→V3→Option Bool
 | 0,x,y=>match zL h x,zL h y with
  | .f a,.f b=>some (eqV a b)
  | _,_=>none
 | n+1,x,y=>match zL h x,zL h y with
  | .f a,.f b=>some (eqV a b)
  | .l xs,.l ys=>if xs.length=ys.length then z4 (zp h n) xs ys else some false
  | .t xs,.t ys=>(z4 (zp h n) xs ys).map (· && xs.length==ys.length)
  | .o,.o=>if emD x=true∧emD y=true then some true else none
  | .o,_=>none
  | _,.o=>none
  | _,_=>some false
section
variable {X:Cx} {κ:Kx} {E:XK} {F:Fr} {σ:L2.St} {H H':Hp} {Q:VK} {p:Addr} {pos:Pos} {i:Nat}
theorem ze9 {f:V3→V3→Option Bool}: ∀{xs ys:List V3} {b:Bool},z4 f xs ys=some b→(∀(j:Nat) (x y:V3),xs[j]? =some x→ys[j]? =some y→∃c,f x y=some c)∧b=(List.range (min xs.length ys.length)).all fun j=>((xs[j]?).bind fun x=>(ys[j]?).bind fun y=>f x y).getD false
 | [],ys,b,e=>by
  unfold z4 at e;cases e
  exact ⟨fun j x y h=>by simp at h,by simp⟩
 | x::xs,[],b,e=>by
  unfold z4 at e;cases e
  exact ⟨fun j x y _ h=>by simp at h,by simp⟩
 | x::xs,y::ys,b,e=>by
  unfold z4 at e
  cases q1:f x y with
  | none=>simp only [q1] at e;cases e
  | some a=>
   cases q2:z4 f xs ys with
   | none=>simp only [q1,q2] at e;cases e
   | some c=>
    simp only [q1,q2] at e;cases e
    obtain ⟨h1,h2⟩:=ze9 q2
    refine ⟨fun j x' y' hx hy=>?_,?_⟩
    ·cases j with
     | zero=>simp at hx hy;subst hx;subst hy;exact ⟨a,q1⟩
     | succ j=>exact h1 j x' y' (by simpa using hx) (by simpa using hy)
    ·rw [List.length_cons,List.length_cons,Nat.add_min_add_right,List.range_succ_eq_map,List.all_cons,List.all_map]
     simp only [List.getElem?_cons_zero,Option.bind_some,q1,Option.getD_some,h2,Function.comp_def,List.getElem?_cons_succ]
theorem qc {x:V3} {v:V} (rel:RelH κ F.O F.β F.h H) (r:Rep κ F.β F.O H x v):match zL F.h x with
  | .f a=>v=a∧zf3 a=true
  | .l xs=> ∃a ys,v= .ref a∧H a=some (.lst ys)∧Reps κ F.β F.O H xs ys
  | .t xs=> ∃a ys,v= .ref a∧H a=some (.tup ys)∧Reps κ F.β F.O H xs ys
  | .o=>True:=by
 cases r with
 | lst h1 h2 h3 h4=>exact ⟨_,_,rfl,h1,h4⟩
 | tup h1 h2 h3 h4=>exact ⟨_,_,rfl,h1,h4⟩
 | @loc n v h1 h2=>
  simp only [zL]
  cases q:F.h[n]? with
  | none=>trivial
  | some c=>
   cases c with
   | lst xs=>
    rcases rel.cell n _ q with z | ⟨a,ha,ys,h5,h6⟩
    ·cases z
    ·exact ⟨a,ys,h2 a ha,h5,h6⟩
   | _=>trivial
 | _=>first | exact ⟨rfl,rfl⟩ | trivial
theorem Vals.at {ys:List V} {us:List Value} {j:Nat} {y:V} (r:Vals ys us) (h:j < us.toArray.size) (e:ys[j]? =some y):RelV y us.toArray[j]:=by
 obtain ⟨u,h1,h2⟩:=r.get e
 have:=(List.getElem?_eq_some_iff.mp h1).2
 have e1:us.toArray[j]=u:=by simpa using this
 rw [e1];exact h2
theorem zie {n:Nat} (ih: ∀{x y:V3} {v:V} {b:Bool},Rep κ F.β F.O H x v→Rep κ F.β F.O H y v→zp F.h n x y=some b→b=true): ∀{xs ys:List V3} {vs:List V} {b:Bool},Reps κ F.β F.O H xs vs→Reps κ F.β F.O H ys vs→z4 (zp F.h n) xs ys=some b→b=true:=by
 intro xs
 induction xs with
 | nil=>intro ys vs b _ _ e;unfold z4 at e;cases e;rfl
 | cons x xs ihx=>
  intro ys vs b r1 r2 e
  cases r1 with
  | cons a1 t1=>
   cases r2 with
   | @cons y _ ys _ a2 t2=>
    unfold z4 at e
    cases q1:zp F.h n x y with
    | none=>simp only [q1] at e;cases e
    | some a=>
     cases q2:z4 (zp F.h n) xs ys with
     | none=>simp only [q1,q2] at e;cases e
     | some c=>
      simp only [q1,q2] at e;cases e
      rw [ih a1 a2 q1,ihx t1 t2 q2];rfl
theorem zh8 {a:V} (h:zf3 a=true):eqV a a=true:=by cases a <;> simp [zf3] at h <;> simp [eqV]
theorem zf8 (rel:RelH κ F.O F.β F.h H): ∀(n:Nat) {x y:V3} {v:V} {b:Bool},Rep κ F.β F.O H x v→Rep κ F.β F.O H y v→zp F.h n x y=some b→b=true
 | 0,x,y,v,b,rx,ry,e=>by
  have kx:=qc rel rx
  have ky:=qc rel ry
  unfold zp at e
  cases h1:zL F.h x <;> cases h2:zL F.h y <;> simp only [h1,h2] at e kx ky <;> try cases e
  obtain ⟨e1,e2⟩:=kx
  obtain ⟨e3,_⟩:=ky
  rw [←e1,←e3];rw [←e1] at e2
  exact zh8 e2
 | n+1,x,y,v,b,rx,ry,e=>by
  have kx:=qc rel rx
  have ky:=qc rel ry
  unfold zp at e
  cases h1:zL F.h x <;> cases h2:zL F.h y <;> simp only [h1,h2] at e kx ky <;> try cases e
  case o.o=>split at e <;> cases e;rfl
  case f.f=>
   obtain ⟨e1,e2⟩:=kx
   obtain ⟨e3,_⟩:=ky
   rw [←e1,←e3];rw [←e1] at e2
   exact zh8 e2
  case f.l=>obtain ⟨e1,e2⟩:=kx;obtain ⟨a,ys,e3,_⟩:=ky;rw [←e1,e3] at e2;cases e2
  case f.t=>obtain ⟨e1,e2⟩:=kx;obtain ⟨a,ys,e3,_⟩:=ky;rw [←e1,e3] at e2;cases e2
  case l.f=>obtain ⟨e1,e2⟩:=ky;obtain ⟨a,ys,e3,_⟩:=kx;rw [←e1,e3] at e2;cases e2
  case t.f=>obtain ⟨e1,e2⟩:=ky;obtain ⟨a,ys,e3,_⟩:=kx;rw [←e1,e3] at e2;cases e2
  case l.t=>obtain ⟨a,ys,e3,h5,_⟩:=kx;obtain ⟨a',ys',e4,h6,_⟩:=ky;rw [e3] at e4;cases e4;rw [h5] at h6;cases h6
  case t.l=>obtain ⟨a,ys,e3,h5,_⟩:=kx;obtain ⟨a',ys',e4,h6,_⟩:=ky;rw [e3] at e4;cases e4;rw [h5] at h6;cases h6
  case l.l xs ys=>
   obtain ⟨a,us,e3,h5,r5⟩:=kx
   obtain ⟨a',us',e4,h6,r6⟩:=ky
   rw [e3] at e4;cases e4
   rw [h5] at h6;cases h6
   rw [if_pos (by rw [r5.length,r6.length])] at e
   exact zie (fun a b c=>zf8 rel n a b c) r5 r6 e
  case t.t xs ys=>
   obtain ⟨a,us,e3,h5,r5⟩:=kx
   obtain ⟨a',us',e4,h6,r6⟩:=ky
   rw [e3] at e4;cases e4
   rw [h5] at h6;cases h6
   cases q:z4 (zp F.h n) xs ys with
   | none=>rw [q] at e;cases e
   | some c=>
    rw [q] at e;cases e
    rw [zie (fun a b c=>zf8 rel n a b c) r5 r6 q,r5.length,r6.length]
    simp
theorem zj2 {s:Shared} {a c:V} {v u:Value} {A:Around} (r1:RelV a v) (r2:RelV c u) (f1:zf3 a=true) (f2:zf3 c=true):SeqAt.RcAt A s v u (eqV a c)∧SeqAt.RcNeAt A s v u (!eqV a c):=by
 cases a with
 | non=>
  cases r1
  cases c with
  | non=>cases r2;exact ⟨.none_none,.none_none⟩
  | bl c=>cases r2;exact ⟨.none_bool _,.none_bool _⟩
  | int c=>obtain ⟨tr2,rfl⟩:=r2;exact ⟨.none_int _ _,.none_int _ _⟩
  | str c=>obtain ⟨tr2,rfl⟩:=r2;exact ⟨.none_str _ _,.none_str _ _⟩
  | _=>exact absurd (show false=true from f2) Bool.false_ne_true
 | bl a=>
  cases r1
  cases c with
  | non=>cases r2;exact ⟨.bool_none _,.bool_none _⟩
  | bl c=>cases r2;exact ⟨.bool_bool _ _,.bool_bool _ _⟩
  | int c=>obtain ⟨tr2,rfl⟩:=r2;exact ⟨.bool_int _ _ _,.bool_int _ _ _⟩
  | str c=>obtain ⟨tr2,rfl⟩:=r2;exact ⟨.bool_str _ _ _,.bool_str _ _ _⟩
  | _=>exact absurd (show false=true from f2) Bool.false_ne_true
 | int a=>
  obtain ⟨tr1,rfl⟩:=r1
  cases c with
  | non=>cases r2;exact ⟨.int_none _ _,.int_none _ _⟩
  | bl c=>cases r2;exact ⟨.int_bool _ _ _,.int_bool _ _ _⟩
  | int c=>obtain ⟨tr2,rfl⟩:=r2;exact ⟨.int_int _ _ _ _,.int_int _ _ _ _⟩
  | str c=>obtain ⟨tr2,rfl⟩:=r2;exact ⟨.int_str _ _ _ _,.int_str _ _ _ _⟩
  | _=>exact absurd (show false=true from f2) Bool.false_ne_true
 | str a=>
  obtain ⟨tr1,rfl⟩:=r1
  cases c with
  | non=>cases r2;exact ⟨.str_none _ _,.str_none _ _⟩
  | bl c=>cases r2;exact ⟨.str_bool _ _ _,.str_bool _ _ _⟩
  | int c=>obtain ⟨tr2,rfl⟩:=r2;exact ⟨.str_int _ _ _ _,.str_int _ _ _ _⟩
  | str c=>obtain ⟨tr2,rfl⟩:=r2;exact ⟨.str_str _ _ _ _,.str_str _ _ _ _⟩
  | _=>exact absurd (show false=true from f2) Bool.false_ne_true
 | _=>exact absurd (show false=true from f1) Bool.false_ne_true
theorem zk5 {x:V3} {v:V} (r:Rep κ F.β F.O H x v) (h:emD x=true): ∃a,v= .ref a∧H a=some (.dT []):=by
 unfold emD at h
 split at h
 ·cases r with
  | dT h1 _ _ h4=>cases h4;exact ⟨_,rfl,h1⟩
 ·cases h
theorem znm {pins:List (Addr×Obj)} {s:Shared} {a:Addr} (I:Inv X pins σ H s) (h:H a=some (.dT [])):(a==sysModules)=false∧∀(prog:Program) (w:World),s.heap.DictOf (zdn prog w) a []:=by
 obtain ⟨_,h1,xs,hx,o,es,ep,ho,he,hd,hl,_,_⟩:=(show ObjOk X.prog X.w H s.heap a (.dT []) from I.hok a _ h)
 cases hx
 have e0:es= #[]:=by
  apply Array.ext'
  rw [hl];rfl
 subst e0
 exact ⟨h1,fun prog w=>⟨o,#[],ep,ho,he,hd,fun e he=>by simp at he,.nil,List.nodup_nil⟩⟩
def ans (h:H3) (n:Nat) (xs ys:List V3) (j:Nat):Bool:=((xs[j]?).bind fun x=>(ys[j]?).bind fun y=>zp h n x y).getD false
theorem zoz (rel:RelH κ F.O F.β F.h H): ∀(n:Nat) {pins:List (Addr×Obj)} {s:Shared} {x y:V3} {v' u':V} {v u:Value} {b:Bool} {A:Around},Inv X pins σ H s→Rep κ F.β F.O H x v'→Rep κ F.β F.O H y u'→RelV v' v→RelV u' u→zp F.h n x y=some b→A.units+n < cLine→
  (SeqAt.RcAt A s v u b∧SeqAt.RcNeAt A s v u (!b))∧SeqAt.EqAt A s v u b:=by
 intro n
 induction n with
 | zero=>
  intro pins s x y v' u' v u b A I rx ry rv ru e hu
  have kx:=qc rel rx
  have ky:=qc rel ry
  unfold zp at e
  cases h1:zL F.h x <;> cases h2:zL F.h y <;> simp only [h1,h2] at e kx ky <;> try cases e
  obtain ⟨e1,e2⟩:=kx
  obtain ⟨e3,e4⟩:=ky
  subst e1;subst e3
  exact ⟨zj2 rv ru e2 e4,znr rv ru e2 e4⟩
 | succ n ih=>
  intro pins s x y v' u' v u b A I rx ry rv ru e hu
  have kx:=qc rel rx
  have ky:=qc rel ry
  have e0:=e
  unfold zp at e
  have items: ∀{xs ys:List V3} {us ws:List V} {vs zs:List Value} {c:Bool},Reps κ F.β F.O H xs us→Reps κ F.β F.O H ys ws→Vals us vs→Vals ws zs→z4 (zp F.h n) xs ys=some c→∀j (h1:j < vs.toArray.size) (h2:j < zs.toArray.size),SeqAt.EqAt A.in1 s vs.toArray[j] zs.toArray[j] (ans F.h n xs ys j):=by
   intro xs ys us ws vs zs c r1 r2 v1 v2 q j h1 h2
   have l1:=r1.length;have l2:=r2.length;have l3:=v1.length;have l4:=v2.length
   have h1':j < xs.length:=by rw [l1,l3];simpa using h1
   have h2':j < ys.length:=by rw [l2,l4];simpa using h2
   obtain ⟨y1,hy1,ry1⟩:=r1.get (zR h1')
   obtain ⟨y2,hy2,ry2⟩:=r2.get (zR h2')
   obtain ⟨d,hd⟩:=(ze9 q).1 j _ _ (zR h1') (zR h2')
   have ea:ans F.h n xs ys j=d:=by unfold ans;rw [zR h1',zR h2'];simp [hd]
   rw [ea]
   exact (ih I ry1 ry2 (Vals.at v1 h1 hy1) (Vals.at v2 h2 hy2) hd (by show A.units+1+n < cLine;omega)).2
  have wrap: ∀{a a':Addr},v'= .ref a→u'= .ref a'→(SeqAt.RcAt A s v u b∧SeqAt.RcNeAt A s v u (!b))→(SeqAt.RcAt A s v u b∧SeqAt.RcNeAt A s v u (!b))∧SeqAt.EqAt A s v u b:=by
   intro a a' ea ea' h
   refine ⟨h,?_⟩
   subst ea;subst ea'
   cases rv;cases ru
   by_cases z:a=a'
   ·subst z
    rw [zf8 rel (n+1) rx ry e0]
    exact SeqAt.EqAt.same _
   ·exact SeqAt.EqAt.of_refs z h.1
  cases h1:zL F.h x <;> cases h2:zL F.h y <;> simp only [h1,h2] at e kx ky <;> try cases e
  case succ.f.f.refl=>
   obtain ⟨e1,e2⟩:=kx
   obtain ⟨e3,e4⟩:=ky
   subst e1;subst e3
   exact ⟨zj2 rv ru e2 e4,znr rv ru e2 e4⟩
  case succ.o.o=>
   split at e
   ·rename_i hd
    cases e
    obtain ⟨a,rfl,ha⟩:=zk5 rx hd.1
    obtain ⟨a',rfl,ha'⟩:=zk5 ry hd.2
    refine wrap rfl rfl ?_
    cases rv;cases ru
    obtain ⟨n1,d1⟩:=znm I ha
    obtain ⟨n2,d2⟩:=znm I ha'
    exact ⟨fun prog w E Q hq=>PySem.W.keq_eq (knd:=zdn prog w) n1 n2 (d1 prog w) (d2 prog w) (by omega) (fun _=> .nil) hq,fun prog w E Q hq=>PySem.W.keq_ne (knd:=zdn prog w) n1 n2 (d1 prog w) (d2 prog w) (by omega) (fun _=> .nil) hq⟩
   ·cases e
  case succ.l.l xs ys=>
   obtain ⟨a,us,rfl,h5,r5⟩:=kx
   obtain ⟨a',us',rfl,h6,r6⟩:=ky
   refine wrap rfl rfl ?_
   cases rv;cases ru
   obtain ⟨vs,rv,pl,_⟩:=I.list (SqL.of (K:=X.K) h5)
   obtain ⟨zs,rz,pz,_⟩:=I.list (SqL.of (K:=X.K) h6)
   have l1:=r5.length;have l2:=r6.length;have l3:=rv.length;have l4:=rz.length
   by_cases hl:xs.length=ys.length
   ·rw [if_pos hl] at e
    have hsz:vs.toArray.size=zs.toArray.size:=by rw [List.size_toArray,List.size_toArray];omega
    have eb:b=(List.range vs.toArray.size).all (ans F.h n xs ys):=by
     rw [(ze9 e).2,←hl,Nat.min_self,List.size_toArray,←l3,←l1];rfl
    rw [eb]
    exact ⟨.lists pl.isList pz.isList hsz (by omega) (items r5 r6 rv rz e),.lists pl.isList pz.isList hsz (by omega) (items r5 r6 rv rz e)⟩
   ·rw [if_neg hl] at e;cases e
    have hsz:(vs.toArray.size !=zs.toArray.size)=true:=by rw [List.size_toArray,List.size_toArray];simp;omega
    exact ⟨.lists_lengths pl.isList pz.isList hsz (by omega),.lists_lengths pl.isList pz.isList hsz (by omega)⟩
  case succ.t.t xs ys=>
   obtain ⟨a,us,rfl,h5,r5⟩:=kx
   obtain ⟨a',us',rfl,h6,r6⟩:=ky
   refine wrap rfl rfl ?_
   cases rv;cases ru
   obtain ⟨vs,rv,pl,_⟩:=I.tuple (SqT.of (K:=X.K) h5)
   obtain ⟨zs,rz,pz,_⟩:=I.tuple (SqT.of (K:=X.K) h6)
   have l1:=r5.length;have l2:=r6.length;have l3:=rv.length;have l4:=rz.length
   cases q:z4 (zp F.h n) xs ys with
   | none=>rw [q] at e;cases e
   | some c=>
    rw [q] at e
    have eb:b=((List.range (min vs.toArray.size zs.toArray.size)).all (ans F.h n xs ys) && vs.toArray.size==zs.toArray.size):=by
     cases e
     rw [(ze9 q).2,List.size_toArray,List.size_toArray,←l3,←l4,←l1,←l2];rfl
    rw [eb]
    exact ⟨.tuples (show s.heap.IsTuple a vs.toArray from pl) (show s.heap.IsTuple a' zs.toArray from pz) (by omega) (items r5 r6 rv rz q),.tuples (show s.heap.IsTuple a vs.toArray from pl) (show s.heap.IsTuple a' zs.toArray from pz) (by omega) (items r5 r6 rv rz q)⟩
  case succ.l.t.refl xs ys=>
   obtain ⟨a,us,rfl,h5,r5⟩:=kx
   obtain ⟨a',us',rfl,h6,r6⟩:=ky
   refine wrap rfl rfl ?_
   cases rv;cases ru
   obtain ⟨vs,rv,pl,_⟩:=I.list (SqL.of (K:=X.K) h5)
   obtain ⟨zs,rz,pz,_⟩:=I.tuple (SqT.of (K:=X.K) h6)
   exact ⟨.list_tuple pl.isList (show s.heap.IsTuple a' zs.toArray from pz) (by omega),.list_tuple pl.isList (show s.heap.IsTuple a' zs.toArray from pz) (by omega)⟩
  case succ.t.l.refl xs ys=>
   obtain ⟨a,us,rfl,h5,r5⟩:=kx
   obtain ⟨a',us',rfl,h6,r6⟩:=ky
   refine wrap rfl rfl ?_
   cases rv;cases ru
   obtain ⟨vs,rv,pl,_⟩:=I.tuple (SqT.of (K:=X.K) h5)
   obtain ⟨zs,rz,pz,_⟩:=I.list (SqL.of (K:=X.K) h6)
   exact ⟨.tuple_list (show s.heap.IsTuple a vs.toArray from pl) pz.isList (by omega),.tuple_list (show s.heap.IsTuple a vs.toArray from pl) pz.isList (by omega)⟩
  case succ.l.f.refl xs a0=>
   obtain ⟨a,us,rfl,h5,r5⟩:=kx
   obtain ⟨e3,e4⟩:=ky
   subst e3
   cases rv
   obtain ⟨vs,rv,pl,_⟩:=I.list (SqL.of (K:=X.K) h5)
   have hu':A.units < cLine:=by omega
   cases u' with
   | non=>cases ru;exact ⟨⟨.list_none pl.isList hu',.list_none pl.isList hu'⟩,.list_none pl.isList hu'⟩
   | bl b=>cases ru;exact ⟨⟨.list_bool b pl.isList hu',.list_bool b pl.isList hu'⟩,.list_bool b pl.isList hu'⟩
   | int b=>obtain ⟨t,rfl⟩:=ru;exact ⟨⟨.list_int b t pl.isList hu',.list_int b t pl.isList hu'⟩,.list_int b t pl.isList hu'⟩
   | str b=>obtain ⟨t,rfl⟩:=ru;exact ⟨⟨.list_str b t pl.isList hu',.list_str b t pl.isList hu'⟩,.list_str b t pl.isList hu'⟩
   | _=>exact absurd (show false=true from e4) Bool.false_ne_true
  case succ.t.f.refl xs a0=>
   obtain ⟨a,us,rfl,h5,r5⟩:=kx
   obtain ⟨e3,e4⟩:=ky
   subst e3
   cases rv
   obtain ⟨vs,rv,pl,_⟩:=I.tuple (SqT.of (K:=X.K) h5)
   have pl:s.heap.IsTuple a vs.toArray:=pl
   have hu':A.units < cLine:=by omega
   cases u' with
   | non=>cases ru;exact ⟨⟨.tuple_none pl hu',.tuple_none pl hu'⟩,.tuple_none pl hu'⟩
   | bl b=>cases ru;exact ⟨⟨.tuple_bool b pl hu',.tuple_bool b pl hu'⟩,.tuple_bool b pl hu'⟩
   | int b=>obtain ⟨t,rfl⟩:=ru;exact ⟨⟨.tuple_int b t pl hu',.tuple_int b t pl hu'⟩,.tuple_int b t pl hu'⟩
   | str b=>obtain ⟨t,rfl⟩:=ru;exact ⟨⟨.tuple_str b t pl hu',.tuple_str b t pl hu'⟩,.tuple_str b t pl hu'⟩
   | _=>exact absurd (show false=true from e4) Bool.false_ne_true
  case succ.f.l.refl a0 xs=>
   obtain ⟨a,us,rfl,h5,r5⟩:=ky
   obtain ⟨e3,e4⟩:=kx
   subst e3
   cases ru
   obtain ⟨vs,ru,pl,_⟩:=I.list (SqL.of (K:=X.K) h5)
   have hu':A.units < cLine:=by omega
   cases v' with
   | non=>cases rv;exact ⟨⟨.none_list pl.isList hu',.none_list pl.isList hu'⟩,.none_list pl.isList hu'⟩
   | bl b=>cases rv;exact ⟨⟨.bool_list b pl.isList hu',.bool_list b pl.isList hu'⟩,.bool_list b pl.isList hu'⟩
   | int b=>obtain ⟨t,rfl⟩:=rv;exact ⟨⟨.int_list b t pl.isList hu',.int_list b t pl.isList hu'⟩,.int_list b t pl.isList hu'⟩
   | str b=>obtain ⟨t,rfl⟩:=rv;exact ⟨⟨.str_list b t pl.isList hu',.str_list b t pl.isList hu'⟩,.str_list b t pl.isList hu'⟩
   | _=>exact absurd (show false=true from e4) Bool.false_ne_true
  case succ.f.t.refl a0 xs=>
   obtain ⟨a,us,rfl,h5,r5⟩:=ky
   obtain ⟨e3,e4⟩:=kx
   subst e3
   cases ru
   obtain ⟨vs,ru,pl,_⟩:=I.tuple (SqT.of (K:=X.K) h5)
   have pl:s.heap.IsTuple a vs.toArray:=pl
   have hu':A.units < cLine:=by omega
   cases v' with
   | non=>cases rv;exact ⟨⟨.none_tuple pl hu',.none_tuple pl hu'⟩,.none_tuple pl hu'⟩
   | bl b=>cases rv;exact ⟨⟨.bool_tuple b pl hu',.bool_tuple b pl hu'⟩,.bool_tuple b pl hu'⟩
   | int b=>obtain ⟨t,rfl⟩:=rv;exact ⟨⟨.int_tuple b t pl hu',.int_tuple b t pl hu'⟩,.int_tuple b t pl hu'⟩
   | str b=>obtain ⟨t,rfl⟩:=rv;exact ⟨⟨.str_tuple b t pl hu',.str_tuple b t pl hu'⟩,.str_tuple b t pl hu'⟩
   | _=>exact absurd (show false=true from e4) Bool.false_ne_true
def yH (s:S3) (h:H3) (x y:Rf):Option Bool:=match rdm s h x,rdm s h y with
 | some xs,some ys=>if xs.length=ys.length then z4 (zp h 8) xs ys else some false
 | _,_=>match x,y with
  | .x a,.x b=>zp h 9 a b
  | _,_=>none
def yU:F2:=fun s h x y=>(yH s h x y).map fun b=> .v (.bl b)
def yk:F2:=fun s h x y=>(yH s h x y).map fun b=> .v (.bl !b)
def rEqT (κ:Kx) (neg:Bool):R2:=fun v w H Q=> ∃F σ x y b,Rel κ F σ H∧RfR κ F H x v∧RfR κ F H y w∧yH F.s F.h x y=some b∧Q (.bl (if neg then !b else b)) H
theorem zqs {pins:List (Addr×Obj)} {s:Shared} {σ':L2.St} {x y:Rf} {v' u':V} {v u:Value} {b:Bool} {A:Around} (I:Inv X pins σ' H s) (rel:Rel κ F σ H) (rx:RfR κ F H x v') (ry:RfR κ F H y u') (rv:RelV v' v) (ru:RelV u' u) (e:yH F.s F.h x y=some b) (hu:A.units+9 < cLine):
  SeqAt.RcAt A s v u b∧SeqAt.RcNeAt A s v u (!b):=by
 unfold yH at e
 split at e
 ·rename_i xs ys q1 q2
  obtain ⟨a,us,rfl,h5,r5⟩:=zen rel rx q1
  obtain ⟨a',us',rfl,h6,r6⟩:=zen rel ry q2
  cases rv;cases ru
  obtain ⟨vs,rv,pl,_⟩:=I.list (SqL.of (K:=X.K) h5)
  obtain ⟨zs,rz,pz,_⟩:=I.list (SqL.of (K:=X.K) h6)
  have l1:=r5.length;have l2:=r6.length;have l3:=rv.length;have l4:=rz.length
  by_cases hl:xs.length=ys.length
  ·rw [if_pos hl] at e
   have hsz:vs.toArray.size=zs.toArray.size:=by rw [List.size_toArray,List.size_toArray];omega
   have eb:b=(List.range vs.toArray.size).all (ans F.h 8 xs ys):=by
    rw [(ze9 e).2,←hl,Nat.min_self,List.size_toArray,←l3,←l1];rfl
   have items: ∀j (h1:j < vs.toArray.size) (h2:j < zs.toArray.size),SeqAt.EqAt A.in1 s vs.toArray[j] zs.toArray[j] (ans F.h 8 xs ys j):=by
    intro j h1 h2
    have h1':j < xs.length:=by rw [l1,l3];simpa using h1
    have h2':j < ys.length:=by rw [l2,l4];simpa using h2
    obtain ⟨y1,hy1,ry1⟩:=r5.get (zR h1')
    obtain ⟨y2,hy2,ry2⟩:=r6.get (zR h2')
    obtain ⟨d,hd⟩:=(ze9 e).1 j _ _ (zR h1') (zR h2')
    have ea:ans F.h 8 xs ys j=d:=by unfold ans;rw [zR h1',zR h2'];simp [hd]
    rw [ea]
    exact (zoz rel.heap 8 I ry1 ry2 (Vals.at rv h1 hy1) (Vals.at rz h2 hy2) hd (by show A.units+1+8 < cLine;omega)).2
   rw [eb]
   exact ⟨.lists pl.isList pz.isList hsz (by omega) items,.lists pl.isList pz.isList hsz (by omega) items⟩
  ·rw [if_neg hl] at e;cases e
   have hsz:(vs.toArray.size !=zs.toArray.size)=true:=by rw [List.size_toArray,List.size_toArray];simp;omega
   exact ⟨.lists_lengths pl.isList pz.isList hsz (by omega),.lists_lengths pl.isList pz.isList hsz (by omega)⟩
 ·split at e
  ·exact (zoz rel.heap 9 I (show Rep κ F.β F.O H _ v' from rx) (show Rep κ F.β F.O H _ u' from ry) rv ru e hu).1
  ·cases e
theorem zg1 (hu:X.A.units+9 < cLine):OpR X (compareOp .Eq) (rEqT κ false):=by
 intro pins s σ H x y v u Q I rx ry h
 obtain ⟨F,σ',x3,y3,b,rel,r1,r2,e,q⟩:=h
 exact (zqs I rel r1 r2 rx ry e hu).1 X.prog X.w X.xe _ ⟨.bl b,H,I,rfl,q⟩
theorem zgw (hu:X.A.units+9 < cLine):OpR X (compareOp .NotEq) (rEqT κ true):=by
 intro pins s σ H x y v u Q I rx ry h
 obtain ⟨F,σ',x3,y3,b,rel,r1,r2,e,q⟩:=h
 exact (zqs I rel r1 r2 rx ry e hu).2 X.prog X.w X.xe _ ⟨.bl !b,H,I,rfl,q⟩
theorem zgq:OpSim κ (rEqT κ false) yU:=fun F σ H x y z v w Q rel rx ry e k=>by
 unfold yU at e
 cases q:yH F.s F.h x y with
 | none=>rw [q] at e;cases e
 | some b=>rw [q] at e;cases e;exact ⟨F,σ,x,y,b,rel,rx,ry,q,k _ H Ext.refl ⟨rel,.bl _⟩⟩
theorem zg0:OpSim κ (rEqT κ true) yk:=fun F σ H x y z v w Q rel rx ry e k=>by
 unfold yk at e
 cases q:yH F.s F.h x y with
 | none=>rw [q] at e;cases e
 | some b=>rw [q] at e;cases e;exact ⟨F,σ,x,y,b,rel,rx,ry,q,k _ H Ext.refl ⟨rel,.bl _⟩⟩
end
section
variable {X:Cx} {κ:Kx} {E:XK} {F:Fr} {σ:L2.St} {H H':Hp} {Q:VK} {p:Addr} {pos np:Pos} {i:Nat} {x:Str} {e:Expr} {es:List Expr} {t:A3}
theorem r_b {id:String} {r:List V→Hp→VK→Prop} {f:FB} (hs:qs κ r f) (hc:yF X (.builtin id) r) (hg:Gl X x) (hm:X.mg x=none) (hv:bootBuiltins x=some (.builtin id)) (ha:PA X (e::es) (zw κ E t)) (hn:x≠"__name__" :=by decide) (hdb:(x==("__debug__" :Str))=false:=by decide)
 (he:starEach (e::es) X.env=(false,eval e X.env)::starEach es X.env:=by rfl) (hpl:(backTo pos (starEach es X.env)).any (·.1)=false:=by rfl):PE X (.Call (.Name x np) (e::es) [] pos) (zg κ E (eB f t)):=yh (zlt hc hg hm hv ha hn hdb he hpl) fun _ _ _ h=>te_b hs h
theorem r_ty {T:String} {r:List V→Hp→VK→Prop} {f:FB} (hs:qs κ r f) (hc:yF X (.type T) r) (hg:Gl X x) (hm:X.mg x=none) (hv:bootBuiltins x=some (.type T)) (ha:PA X (e::es) (zw κ E t)) (hn:x≠"__name__" :=by decide) (hdb:(x==("__debug__" :Str))=false:=by decide)
 (he:starEach (e::es) X.env=(false,eval e X.env)::starEach es X.env:=by rfl) (hpl:(backTo pos (starEach es X.env)).any (·.1)=false:=by rfl):PE X (.Call (.Name x np) (e::es) [] pos) (zg κ E (eB f t)):=yh (zln hc hg hm hv ha hn hdb he hpl) fun _ _ _ h=>te_b hs h
theorem p1 {f:Rf} {vs:List V} (r:Paired (RfR κ F H) [f] vs): ∃v,vs=[v]∧RfR κ F H f v:=by
 cases r with | cons a t=>cases t;exact ⟨_,rfl,a⟩
theorem p2 {f g:Rf} {vs:List V} (r:Paired (RfR κ F H) [f,g] vs): ∃v w,vs=[v,w]∧RfR κ F H f v∧RfR κ F H g w:=by
 cases r with | cons a t=>cases t with | cons b t=>cases t;exact ⟨_,_,rfl,a,b⟩
def bLen:FB:=fun s h fs=>match fs with
 | [.x (.str y)]=>if y.length≤sizeLine then some (.v (.int y.length)) else none
 | [.x (.tup xs)]=>some (.v (.int xs.length))
 | [f]=>(rdl s h f).map fun xs=> .v (.int xs.length)
 | _=>none
theorem qz:qs κ (fun xs H Q=> ∃x n,xs=[x]∧LenV κ.K x H n∧Q (.int n) H) bLen:=fun F σ H fs z vs Q rel r e k=>by
 unfold bLen at e
 split at e
 ·rename_i y
  obtain ⟨v,rfl,rv⟩:=p1 r
  cases (show Rep κ F.β F.O H (.str y) v from rv)
  obtain ⟨h,rfl⟩:=qq e
  exact ⟨_,_,rfl,⟨h,rfl⟩,k _ H Ext.refl ⟨rel,.int _⟩⟩
 ·rename_i xs
  obtain ⟨v,rfl,rv⟩:=p1 r
  cases e
  cases (show Rep κ F.β F.O H (.tup xs) v from rv) with
  | tup h1 h2 h3 h4=>exact ⟨_,_,rfl,.inr ⟨_,.of h1,rfl⟩,k _ H Ext.refl ⟨rel,by rw [h4.length];exact .int _⟩⟩
 ·rename_i f _ _
  obtain ⟨v,rfl,rv⟩:=p1 r
  cases q:rdl F.s F.h f with
  | none=>rw [q] at e;cases e
  | some xs=>
   rw [q] at e;cases e
   obtain ⟨a,ys,rfl,sq,rs⟩:=zdp rel rv q
   exact ⟨_,_,rfl,.inl ⟨_,sq,rfl⟩,k _ H Ext.refl ⟨rel,by rw [rs.length];exact .int _⟩⟩
 ·cases e
theorem qx (hK:X.K=κ.K):yF X (.builtin "len") (fun xs H Q=> ∃x n,xs=[x]∧LenV κ.K x H n∧Q (.int n) H):=by rw [←hK];exact zmp
def bMax:FB:=fun _ _ fs=>match fs with
 | [.x (.int i),.x (.int j)]=>some (.v (.int (max i j)))
 | _=>none
def bMin:FB:=fun _ _ fs=>match fs with
 | [.x (.int i),.x (.int j)]=>some (.v (.int (min i j)))
 | _=>none
def bMin3:FB:=fun _ _ fs=>match fs with
 | [.x (.int i),.x (.int j),.x (.int k)]=>some (.v (.int (min i (min j k))))
 | _=>none
def bInt:FB:=fun _ _ fs=>match fs with
 | [.x (.int i)]=>some (.v (.int i))
 | [.x (.bl b)]=>some (.v (.int (if b then 1 else 0)))
 | _=>none
def bList:FB:=fun s h fs=>match fs with
 | [.x (.tup xs)]=>some (.m (.lst xs))
 | [f]=>(rdl s h f).map fun xs=> .m (.lst xs)
 | _=>none
theorem zil:qs κ (fun xs H Q=> ∃p ys,xs=[.ref p]∧(SqL κ.K H p ys∨SqT κ.K H p ys)∧∀l,H l=none→Q (.ref l) (zi H l (.lst ys))) bList:=fun F σ H fs z vs Q rel r e k=>by
 unfold bList at e
 split at e
 ·rename_i xs
  cases e
  obtain ⟨v,rfl,rv⟩:=p1 r
  cases (show Rep κ F.β F.O H (.tup xs) v from rv) with
  | tup h1 h2 h3 h4=>exact ⟨_,_,rfl,.inr (.of h1),fun l hl=>k _ _ (yj hl) (Post.lst rel hl h4)⟩
 ·rename_i f _
  obtain ⟨v,rfl,rv⟩:=p1 r
  cases q:rdl F.s F.h f with
  | none=>rw [q] at e;cases e
  | some xs=>
   rw [q] at e;cases e
   obtain ⟨a,ys,rfl,sq,rs⟩:=zdp rel rv q
   exact ⟨_,_,rfl,.inl sq,fun l hl=>k _ _ (yj hl) (Post.lst rel hl rs)⟩
 ·cases e
def zH {α β:Type} (f:α→Option β):List α→Option (List β)
 | []=>some []
 | x::r=>match f x,zH f r with
  | some y,some l=>some (y::l)
  | _,_=>none
theorem zfo {α β γ:Type} {f:α→Option β} {g:γ→α} {k:γ→β} (h: ∀c,f (g c)=some (k c)): ∀l:List γ,zH f (l.map g)=some (l.map k)
 | []=>rfl
 | x::r=>by simp only [List.map_cons,zH,h x,zfo h r]
theorem zg3 {α β:Type} {f:α→Option β} {x:α} {r:List α} {l:List β} (e:zH f (x::r)=some l): ∃y l',f x=some y∧zH f r=some l'∧l=y::l':=by
 unfold zH at e
 cases q1:f x with
 | none=>simp only [q1] at e;cases e
 | some y=>
  cases q2:zH f r with
  | none=>simp only [q1,q2] at e;cases e
  | some l'=>simp only [q1,q2] at e;cases e;exact ⟨y,l',rfl,rfl,rfl⟩
def bl3:V3→Option Bool
 | .bl b=>some b
 | _=>none
theorem zh7: ∀{xs:List V3} {ys:List V} {bs:List Bool},Reps κ F.β F.O H xs ys→zH bl3 xs=some bs→ys=bs.map V.bl
 | _,_,_,.nil,e=>by cases e;rfl
 | x::xs,y::ys,bs,.cons a r,e=>by
  obtain ⟨b,l,h1,h2,rfl⟩:=zg3 e
  cases x <;> simp [bl3] at h1
  subst h1
  cases a
  rw [List.map_cons,zh7 r h2]
def bAll (q:List Bool→Bool):FB:=fun s h fs=>match fs with
 | [f]=>match rdl s h f with
  | some xs=>(zH bl3 xs).map fun bs=> .v (.bl (q bs))
  | none=>none
 | _=>none
theorem zoj {q:List Bool→Bool}:qs κ (fun xs H Q=> ∃(p:Addr) (bs:List Bool),xs=[.ref p]∧SqL κ.K H p (bs.map V.bl)∧Q (.bl (q bs)) H) (bAll q):=fun F σ H fs z vs Q rel r e k=>by
 unfold bAll at e
 split at e
 ·rename_i f
  obtain ⟨v,rfl,rv⟩:=p1 r
  cases q1:rdl F.s F.h f with
  | none=>rw [q1] at e;cases e
  | some xs=>
   rw [q1] at e
   cases q2:zH bl3 xs with
   | none=>simp only [q2] at e;cases e
   | some bs=>
    simp only [q2] at e;cases e
    obtain ⟨a,ys,rfl,sq,rs⟩:=zdp rel rv q1
    exact ⟨a,bs,rfl,by rw [←zh7 rs q2];exact sq,k _ H Ext.refl ⟨rel,.bl _⟩⟩
 ·cases e
theorem zk1 (hK:X.K=κ.K) (hc:X.calm=true):yF X (.builtin "all") (fun xs H Q=> ∃(p:Addr) (bs:List Bool),xs=[.ref p]∧SqL κ.K H p (bs.map V.bl)∧Q (.bl (bs.all id)) H):=by rw [←hK];exact zmo hc
theorem zfk (hK:X.K=κ.K):yF X (.type "list") (fun xs H Q=> ∃p ys,xs=[.ref p]∧(SqL κ.K H p ys∨SqT κ.K H p ys)∧∀l,H l=none→Q (.ref l) (zi H l (.lst ys))):=by rw [←hK];exact zgy
instance {x:Int}:Decidable (InLong x):=inferInstanceAs (Decidable (_∧_))
def ty3 (s:S3) (h:H3):Rf→Option String
 | .x .non=>some "NoneType"
 | .x (.bl _)=>some "bool"
 | .x (.int _)=>some "int"
 | .x (.str _)=>some "str"
 | .x (.tup _)=>some "tuple"
 | .x (.dT _)=>some "dict"
 | .x (.scr _)=>none
 | f=>(rdl s h f).map fun _=>"list"
def isa (t T:String):Option Bool:=
 if T="int" then some (t=="int" || t=="bool") else if T="bool" ∨T="str" ∨T="list" ∨T="tuple" then some (t==T) else none
def bIsT:FB:=fun s h fs=>match fs with
 | [f,.x (.ty T)]=>match ty3 s h f with
  | some t=>(isa t T).map fun b=> .v (.bl b)
  | none=>none
 | _=>none
theorem zon {K:PySem.W.Frag} {t T:String} {b:Bool} (ht:t∈["NoneType","bool","int","str","tuple","list","dict"]) (e:isa t T=some b):PySem.W.kitOne K (.type t) (.type T)=some b:=by
 unfold isa at e
 have hT:T∈["int","bool","str","list","tuple"]:=by
  by_cases h:T="int"
  ·simp [h]
  ·rw [if_neg h] at e
   by_cases h2:T="bool" ∨T="str" ∨T="list" ∨T="tuple"
   ·simp only [List.mem_cons,List.not_mem_nil,or_false];exact .inr h2
   ·rw [if_neg h2] at e;cases e
 simp only [List.mem_cons,List.not_mem_nil,or_false] at ht hT
 rcases ht with rfl | rfl | rfl | rfl | rfl | rfl | rfl <;> rcases hT with rfl | rfl | rfl | rfl | rfl <;> (simp at e;subst e;rfl)
theorem zr4 {f:Rf} {v:V} {t:String} (rel:Rel κ F σ H) (r:RfR κ F H f v) (e:ty3 F.s F.h f=some t):t∈["NoneType","bool","int","str","tuple","list","dict"]∧TyOf κ.K H v (.type t):=by
 have lists: ∀{f:Rf} {v:V} {t:String},RfR κ F H f v→(∀ns,f≠ .x (.scr ns))→((rdl F.s F.h f).map fun _=>"list")=some t→t∈["NoneType","bool","int","str","tuple","list","dict"]∧TyOf κ.K H v (.type t):=by
  intro f v t r hf e
  cases q:rdl F.s F.h f with
  | none=>rw [q] at e;cases e
  | some xs=>
   rw [q] at e;cases e
   have q2:rdm F.s F.h f=some xs:=by
    unfold rdm
    split
    ·rename_i ns;exact absurd rfl (hf ns)
    ·exact q
   obtain ⟨a,ys,rfl,ha,_⟩:=zen rel r q2
   exact ⟨by simp,.lst ha⟩
 cases f with
 | s i=>exact lists r (fun _ z=>nomatch z) e
 | x y=>
  cases y with
  | non=>cases e;cases (show Rep κ F.β F.O H .non v from r);exact ⟨by simp,.non⟩
  | bl b=>cases e;cases (show Rep κ F.β F.O H (.bl b) v from r);exact ⟨by simp,.bl b⟩
  | int b=>cases e;cases (show Rep κ F.β F.O H (.int b) v from r);exact ⟨by simp,.int b⟩
  | str b=>cases e;cases (show Rep κ F.β F.O H (.str b) v from r);exact ⟨by simp,.str b⟩
  | tup xs=>cases e;cases (show Rep κ F.β F.O H (.tup xs) v from r) with | tup h1 _ _ _=>exact ⟨by simp,.tup h1⟩
  | dT kvs=>cases e;cases (show Rep κ F.β F.O H (.dT kvs) v from r) with | dT h1 _ _ _=>exact ⟨by simp,.dT h1⟩
  | scr ns=>cases e
  | lst xs=>exact lists r (fun _ z=>nomatch z) e
  | loc n=>exact lists r (fun _ z=>nomatch z) e
  | _=>cases e
theorem zd3:qs κ (fun xs H Q=> ∃x T t b,xs=[x,.ty T]∧TyOf κ.K H x t∧PySem.W.kitOne κ.K t (.type T)=some b∧Q (.bl b) H) bIsT:=fun F σ H fs z vs Q rel r e k=>by
 unfold bIsT at e
 split at e
 ·rename_i f T
  obtain ⟨v,w,rfl,rv,rw'⟩:=p2 r
  cases (show Rep κ F.β F.O H (.ty T) w from rw')
  cases q1:ty3 F.s F.h f with
  | none=>rw [q1] at e;cases e
  | some t=>
   rw [q1] at e
   cases q2:isa t T with
   | none=>simp only [q2] at e;cases e
   | some b=>
    simp only [q2] at e;cases e
    obtain ⟨h1,h2⟩:=zr4 rel rv q1
    exact ⟨v,T,_,b,rfl,h2,zon h1 q2,k _ H Ext.refl ⟨rel,.bl _⟩⟩
 ·cases e
theorem zdb (hK:X.K=κ.K):yF X (.builtin "isinstance") (fun xs H Q=> ∃x T t b,xs=[x,.ty T]∧TyOf κ.K H x t∧PySem.W.kitOne κ.K t (.type T)=some b∧Q (.bl b) H):=by rw [←hK];exact zhl
def tru3 (s:S3) (h:H3):Rf→Option Bool
 | .x .non=>some false
 | .x (.bl b)=>some b
 | .x (.int i)=>some (i !=0)
 | .x (.str y)=>if y.length≤sizeLine then some ((y.length:Int) !=0) else none
 | .x (.tup xs)=>some (!xs.isEmpty)
 | f=>(rdl s h f).map fun xs=> !xs.isEmpty
def tP (p:P3):T3:=fun s h=>(p s h).bind fun f h1=>match tru3 s h1 f with
 | some b=> .ok b h1
 | none=> .no
theorem zee {xs:List V3} {ys:List V} (r:Reps κ F.β F.O H xs ys):xs.isEmpty=ys.isEmpty:=by cases r <;> rfl
theorem zow {f:Rf} {v:V} {b:Bool} (rel:Rel κ F σ H) (r:RfR κ F H f v) (e:tru3 F.s F.h f=some b):TruV κ.K v H b:=by
 have lists: ∀{f:Rf} {v:V} {b:Bool},RfR κ F H f v→((rdl F.s F.h f).map fun xs=> !xs.isEmpty)=some b→TruV κ.K v H b:=by
  intro f v b r e
  cases q:rdl F.s F.h f with
  | none=>rw [q] at e;cases e
  | some xs=>
   rw [q] at e;cases e
   obtain ⟨a,ys,rfl,sq,rs⟩:=zdp rel r q
   exact .inl ⟨ys,sq,by show (!xs.isEmpty)=_;rw [zee rs]⟩
 cases f with
 | s i=>exact lists r e
 | x y=>
  cases y with
  | non=>cases e;cases (show Rep κ F.β F.O H .non v from r);rfl
  | bl b=>cases e;cases (show Rep κ F.β F.O H (.bl b) v from r);rfl
  | int b=>cases e;cases (show Rep κ F.β F.O H (.int b) v from r);rfl
  | str b=>cases (show Rep κ F.β F.O H (.str b) v from r);obtain ⟨h,rfl⟩:=qq e;exact ⟨h,rfl⟩
  | tup xs=>cases e;cases (show Rep κ F.β F.O H (.tup xs) v from r) with | tup h1 _ _ h4=>exact .inr (.inl ⟨_,.of h1,by rw [zee h4]⟩)
  | scr ns=>exact lists r e
  | lst xs=>exact lists r e
  | loc n=>exact lists r e
  | _=>cases e
theorem zq2 {a:Expr} {d:P3} (hK:X.K=κ.K) (ha:PE X a (zh κ E d)) (he: ∀whole,isTrue a X.env whole=(do let v ←whole;standAt a.pos;holding [v] (truthy v)):=by intro _;rfl):PT X a (zA κ E (tP d)):=PTw (zmu ha he) fun σ H Q ⟨F,rel,o⟩=>
 (zN (K:=kP κ) km_T rel o).mono fun v H1 ⟨β1,h1,f,e1,⟨r1,rf⟩,o1⟩=>by
  cases q:tru3 F.s h1 f with
  | none=>simp only [q] at o1;exact o1.elim
  | some b=>
   simp only [q] at o1
   exact ⟨b,by rw [hK];exact zow (F:=F.to β1 h1) r1 rf q,o1 β1 b H1 Ext.refl ⟨rfl,r1⟩⟩
end
section
variable {X:Cx} {κ:Kx} {E:XK} {F F1 F2 F':Fr} {σ σ':L2.St} {H H1 H2 H':Hp} {Q:VK} {p:Addr} {e a b o:Expr} {pos apos np:Pos} {i:Nat} {D:Ends}
def yQ (a:A3):I3:=fun s h=>(a s h).bind fun fs h1=>match fs with
 | [.x (.int j)]=>if -(2 ^ 62)≤j∧j < 2 ^ 62 then .ok ⟨[],(List.range j.toNat).map fun k=> .int (0+(k:Nat)),fun _=>True⟩ h1 else .no
 | _=> .no
theorem zl5 {lo:Int} {n:Nat}:IR κ ⟨[],(List.range n).map fun k=> .int (lo+(k:Nat)),fun _=>True⟩ [] (Itr lo n):=fun F σ H rel _ _ i=>by
 have el:((List.range n).map fun k=>V3.int (lo+(k:Nat))).length=n:=by simp
 refine ⟨fun hi=>⟨show i < n by rw [el] at hi;exact hi,fun x H' ⟨e1,e2⟩=>?_⟩,fun hi=>show n≤i by rw [el] at hi;exact hi⟩
 subst e1;subst e2
 have hi:i < n:=by simpa using hi
 exact ⟨.int (lo+i),by simp [hi],Ext.refl,rel,.int _⟩
theorem zdw {tg:Expr} {t:A3} (hg:Gl X "range") (hm:X.mg "range" =none) (ha:PA X [a] (zw κ E t)) (hs:starEach [a] X.env=[(false,eval a X.env)]:=by rfl):PI X tg (.Call (.Name "range" np) [a] [] pos) (tiOf κ E (yQ t)):=PIw (zkz hg hm ha hs) fun σ H R ⟨F,rel,o⟩=>
 (zN (K:=kA κ) km_I rel o).mono fun vs H1 ⟨β1,h1,fs,e1,⟨r1,rf⟩,o1⟩=>by
  match fs,rf,o1 with
  | [.x (.int j)],rf,o1=>
   obtain ⟨v,rfl,rv⟩:=p1 rf
   cases (show Rep κ β1 F.O H1 (.int j) v from rv)
   by_cases hj: -(2 ^ 62)≤j∧j < 2 ^ 62
   ·simp only [if_pos hj] at o1
    exact ⟨j,rfl,hj.1,hj.2,o1 β1 _ H1 Ext.refl ⟨r1,[],.nil,zl5⟩⟩
   ·simp only [if_neg hj] at o1;exact o1.elim
def yc (n:Nat) (fr:List Nat) (s:S3):S3:=List.replicate n none++fr.map fun j=>match s[j]? with
 | some (some (.v x))=>some (.v x)
 | _=>none
open Classical in
def yO (ok:H3→Prop) (g:G3) (c:T3) (e:E3):List V3→List V3→S3→H3→Res (List V3)
 | [],acc,_,h=>if ok h then .ok acc h else .no
 | x::r,acc,s,h=>if ok h then match g x s with
  | none=> .no
  | some s1=>match c s1 h with
   | .ok true h1=>match e s1 h1 with
    | .ok v h2=>match v.fz with
     | some y=>if acc.length < sizeLine then yO ok g c e r (acc++[y]) s1 h2 else .no
     | none=> .no
    | _=> .no
   | .ok false h1=>yO ok g c e r acc s1 h1
   | _=> .no
  else .no
def zgf (n:Nat) (fr:List Nat) (it:I3) (g:G3) (c:T3) (e:E3):E3:=fun s h=>(it s h).bind fun I h1=>(yO I.ok g c e I.xs [] (yc n fr s) h1).bind fun vs h2=> .ok (.m (.lst vs)) h2
def tTru:T3:=fun _ h=> .ok true h
theorem zjl:PTs X [] (zA κ E tTru):=fun pins s σ H Q I ⟨F,rel,o⟩=>zpv pins s σ H Q I (o F.β true H Ext.refl ⟨rfl,rel⟩)
theorem zd0 {β:List (Option Addr)} {d:Addr} {o:HO} (ho: ∃u,H d=some u):Ext (fun a=>a=d) β H β (zi H d o):=
 ⟨fun a u ha hn m=>⟨by rw [zv m];exact ha,hn⟩,Nat.le_refl _,fun _ _ _ h=>h,fun a u ha=>by
  by_cases z:a=d
  ·subst z;exact ⟨o,zX⟩
  ·exact ⟨u,by rw [zv z];exact ha⟩,nwb0⟩
theorem RelH.wrO {O:Addr→Prop} {β:List (Option Addr)} {h:H3} {d:Addr} {u:HO} (r:RelH κ O β h H) (hd:O d) (hu: ∀ys,u≠HO.tup ys:=by intro _ z;cases z):RelH κ O β h (zi H d u):=by
 have ex:=zd0 (β:=β) (o:=u) (r.trk' d hd)
 have th: ∀a w,H a=some w→(∀ys,w≠HO.tup ys)→∃w,zi H d u a=some w∧∀ys,w≠HO.tup ys:=fun a w q n=>by
  by_cases z:a=d
  ·subst z;exact ⟨u,zX,hu⟩
  ·exact ⟨w,by rw [zv z];exact q,n⟩
 refine ⟨r.len,r.inj,r.off,fun a ha=>let ⟨w,q,n⟩:=r.trk a ha;th a w q n,fun i a q=>let ⟨w,z,n⟩:=r.btr i a q;th a w z n,fun i c hc=>(r.cell i c hc).imp id fun ⟨a,ha,q⟩=>⟨a,ha,q.ext ex (fun b hb=>by rw [hb];exact hd) (fun _ _ _ n=>n) fun w hw=>?_⟩⟩
 rw [zv (fun z=>by subst z;exact r.off a hd (List.mem_of_getElem? ha))];exact hw
theorem Rel.wrOi {d:Addr} {u:HO} (r:Rel κ F σ H) (hd:F.Oi d) (hu: ∀ys,u≠HO.tup ys:=by intro _ z;cases z):Rel κ F σ (zi H d u) where
 heap:=r.heap.wrO (.inr (.inr hd)) hu
 slen:=r.slen
 llen:=r.llen
 linj:=r.linj
 lt:=r.lt
 lo:=r.lo
 to:=r.to
 tn:=r.tn
 slot:=fun i x q=>by
  have hO:F.O d:= .inr (.inr hd)
  have ex:=zd0 (β:=F.β) (o:=u) (r.heap.trk' d hO)
  obtain ⟨v,h1,h2⟩:=r.slot i x q
  refine ⟨v,h1,?_⟩
  cases x with
  | v x=>exact Rep.ext ex (fun b hb=>by rw [hb];exact hO) (fun _ _ _ n=>n) h2
  | m c=>
   obtain ⟨a,a1,a2,a3⟩:=h2
   refine ⟨a,a1,a2,a3.ext ex (fun b hb=>by rw [hb];exact hO) (fun _ _ _ n=>n) fun w hw=>?_⟩
   rw [zv (fun z=>by subst z;exact r.lo a (List.mem_of_getElem? a1) hd)];exact hw
theorem zke {n:Nat} {fr:List Nat} {s:S3} {i:Nat} {x:Vl} (h:(yc n fr s)[i]? =some (some x)): ∃j y,fr[i - n]? =some j∧n≤i∧s[j]? =some (some (.v y))∧x= .v y:=by
 unfold yc at h
 by_cases hi:i < n
 ·rw [List.getElem?_append_left (by simpa using hi),List.getElem?_replicate] at h
  split at h <;> cases h
 ·rw [List.getElem?_append_right (by simpa using hi),List.length_replicate,List.getElem?_map] at h
  cases q:fr[i - n]? with
  | none=>rw [q] at h;cases h
  | some j=>
   rw [q] at h
   simp only [Option.map_some,Option.some.injEq] at h
   split at h
   ·rename_i y hy;cases h;exact ⟨j,y,rfl,by omega,hy,rfl⟩
   ·cases h
theorem zlj {n:Nat} {fr:List Nat} {it:I3} {g:G3} {c:T3} {d:E3} (h:zg κ E (zgf n fr it g c d) σ H Q):zm4 (tiOf κ E it) n fr (yf κ g) (zA κ E0 c) (zg κ E0 d) σ H Q:=by
 obtain ⟨F,rel,o⟩:=h
 refine (zN (K:=kI κ) zy rel o).mono fun J H1 ⟨β1,h1,I,e1,⟨r1,vs,rv,ir⟩,o1⟩=>fun D hD=>?_
 have hDH:H D=none:=e1.nw D hD
 let Oi:Addr→Prop:=fun a=>a=D∨F.O a
 have rn:=(r1.new (o:= .lst []) hD)
 have rh1:RelH κ Oi β1 h1 (zi H1 D (.lst [])):=rn.1.heap.sub fun a ha=>ha.elim (fun z=> .inl (by rw [z];exact List.mem_cons_self)) fun z=>Fr.O_with z
 have hO1: ∀a u,H1 a=some u→¬F.O a→¬Oi a:=fun a u ha n z=>z.elim (fun w=>by subst w;rw [hD] at ha;cases ha) n
 let F0:Fr:=⟨Oi,[],β1,List.replicate (yc n fr F.s).length none,yc n fr F.s,h1⟩
 have sub0: ∀(F':Fr),F'.T=[]→(∀a,some a∉F'.l)→F'.Oi=Oi→∀a,F'.O a→Oi a:=fun F' t l oi a ha=>by
  rcases ha with z | z | z
  ·rw [t] at z;cases z
  ·exact absurd z (l a)
  ·rw [oi] at z;exact z
 have hlen:(yc n fr F.s).length=(cst n fr σ).length:=by unfold yc cst;simp
 have rel0:Rel κ F0 (cst n fr σ) (zi H1 D (.lst [])):=by
  refine ⟨rh1.sub (sub0 F0 rfl (fun a=>qg) rfl),hlen,?_,fun i j a h=>absurd (List.mem_of_getElem? h) qg,fun a ha=>absurd ha qg,fun a ha=>absurd ha qg,fun a ha=>(by cases ha),List.nodup_nil,fun i x hx=>?_⟩
  ·show (List.replicate (yc n fr F.s).length (none:Option Addr)).length=(yc n fr F.s).length
   simp
  ·obtain ⟨j,y,hj,hi,hy,rfl⟩:=zke hx
   obtain ⟨v,hv,rv⟩:=r1.slot j _ hy
   refine ⟨v,?_,Rep.sub (sub0 F0 rfl (fun a=>qg) rfl) (Rep.ext (yj hD) (fun _ z=>z.elim) hO1 (show Rep κ β1 F.O H1 y v from rv))⟩
   unfold cst
   rw [List.getElem?_append_right (by simpa using hi),List.length_replicate,List.getElem?_map,hj]
   simp [hv]
 have rv0:Reps κ β1 Oi (zi H1 D (.lst [])) I.its vs:=rv.ext (yj hD) (fun _ z=>z.elim) hO1
 refine ⟨fun i m acc σ' H'=>m=I.xs.length - i∧i≤I.xs.length∧H' D=some (.lst acc)∧∃(F':Fr) (acc3:List V3),Rel κ F' σ' H'∧F'.T=[]∧(∀a,some a∉F'.l)∧F'.Oi=Oi∧Reps κ F'.β Oi H' I.its vs∧Reps κ F'.β Oi H' acc3 acc∧Ext No β1 H1 F'.β H'∧
   Out κ E (kE κ) (F.to β1 h1) σ H1 Q ((yO I.ok g c d (I.xs.drop i) acc3 F'.s F'.h).bind fun vs h2=> .ok (.m (.lst vs)) h2),
  ⟨_,rfl,Nat.zero_le _,zX,F0,[],rel0,rfl,fun a=>qg,rfl,rv0,.nil,yj hD,o1⟩,?_⟩
 rintro i m acc σ' H' ⟨rfl,hi,hacc,F',acc3,rel',ht,hl,hoi,rits,racc,ex,out⟩
 refine ⟨hacc,?_⟩
 have hO: ∀a,F'.O a↔Oi a:=fun a=>⟨sub0 F' ht hl hoi a,fun z=> .inr (.inr (by rw [hoi];exact z))⟩
 have eO:F'.O=Oi:=funext fun a=>propext (hO a)
 by_cases hok:I.ok F'.h
 case neg=>
  exfalso
  cases q:I.xs.drop i with
  | nil=>rw [q] at out;unfold yO at out;rw [if_neg hok] at out;exact out
  | cons x r=>rw [q] at out;unfold yO at out;rw [if_neg hok] at out;exact out
 obtain ⟨i1,i2⟩:=ir F' σ' H' rel' (by rw [eO];exact rits) hok i
 by_cases hlt:i < I.xs.length
 ·obtain ⟨go,yl⟩:=i1 hlt
  refine .inr ⟨go,fun acc' σ3 H5=>H5 D=some (.lst acc')∧∃(F':Fr) (acc3:List V3),Rel κ F' σ3 H5∧F'.T=[]∧(∀a,some a∉F'.l)∧F'.Oi=Oi∧Reps κ F'.β Oi H5 I.its vs∧Reps κ F'.β Oi H5 acc3 acc'∧Ext No β1 H1 F'.β H5∧
   Out κ E (kE κ) (F.to β1 h1) σ H1 Q ((yO I.ok g c d (I.xs.drop (i+1)) acc3 F'.s F'.h).bind fun vs h2=> .ok (.m (.lst vs)) h2),fun acc' σ3 H5 n5=>⟨_,by omega,rfl,hlt,n5⟩,fun x H2 y=>?_⟩
  obtain ⟨x3,ex3,ey,ry,rp⟩:=yl x H2 y
  have hd:I.xs.drop i=x3::I.xs.drop (i+1):=by
   rw [List.drop_eq_getElem_cons hlt]
   congr 1
   rw [zR hlt] at ex3
   exact Option.some.inj ex3
  rw [hd] at out
  unfold yO at out
  rw [if_pos hok] at out
  cases w:g x3 F'.s with
  | none=>simp only [w] at out;exact out.elim
  | some s1=>
   simp only [w] at out
   refine ⟨F',x3,s1,ry,ht,rp,w,fun F3 σ3 e3 b3 s3 h3 r3=>?_⟩
   have hl3: ∀a,some a∉F3.l:=fun a ha=>by
    rcases e3.lam a ha with z | z
    ·exact hl a z
    ·obtain ⟨k,hk⟩:=List.getElem?_of_mem ha
     obtain ⟨u,hu,_⟩:=r3.heap.trk a (.inr (.inl ha))
     rw [z] at hu;cases hu
   have hoi3:F3.Oi=Oi:=e3.oi.trans hoi
   have eO3:F3.O=Oi:=funext fun a=>propext ⟨sub0 F3 e3.tt hl3 hoi3 a,fun z=> .inr (.inr (by rw [hoi3];exact z))⟩
   refine ⟨F3,r3,?_⟩
   rw [s3,h3]
   cases q:c s1 F'.h with
   | no=>simp only [q] at out;exact out.elim
   | ex x h2=>simp only [q] at out;exact out.elim
   | ok cb h2=>
    simp only [q] at out
    rintro β4 cb' H4 e4 ⟨rfl,r4⟩
    have ex4:Ext No β1 H1 β4 H4:=(ex.trans0 ey).trans0 (by rw [b3] at e4;exact e4)
    have k4: ∀{x:List V3} {v:List V},Reps κ F'.β Oi H' x v→Reps κ β4 Oi H4 x v:=fun r=>(r.ext0 ey).ext0 (by rw [b3] at e4;exact e4)
    have hD2:H2 D=some (.lst acc):=(ey.keep D _ hacc (rel'.heap.off D ((hO D).mpr (.inl rfl))) fun z=>z).1
    have hD4:H4 D=some (.lst acc):=(e4.keep D _ hD2 (r3.heap.off D (by rw [eO3];exact .inl rfl)) fun z=>z).1
    cases cb' with
    | false=>rw [if_neg Bool.false_ne_true];exact ⟨hD4,F3.to β4 h2,acc3,r4,e3.tt,hl3,hoi3,k4 rits,k4 racc,ex4,by show Out _ _ _ _ _ _ _ ((yO I.ok g c d (I.xs.drop (i+1)) acc3 F3.s h2).bind _);rw [s3];exact out⟩
    | true=>
     rw [if_pos rfl]
     refine ⟨F3.to β4 h2,r4,?_⟩
     show Out κ E0 (kE κ) (F3.to β4 h2) σ3 H4 _ (d F3.s h2)
     rw [s3]
     cases q5:d s1 h2 with
     | no=>simp only [q5] at out;exact out.elim
     | ex x h5=>simp only [q5] at out;exact out.elim
     | ok r5 h5=>
      simp only [q5] at out
      intro β5 v5 H5 e5 p5
      cases z:r5.fz with
      | none=>simp only [z] at out;exact out.elim
      | some y5=>
       simp only [z] at out
       by_cases hsz:acc3.length < sizeLine
       ·rw [if_pos hsz] at out
        obtain ⟨r6,rep6⟩:=Post.fz p5 z
        have hD5:H5 D=some (.lst acc):=(e5.keep D _ hD4 (r4.heap.off D (.inr (.inr (by show F3.Oi D;rw [hoi3];exact .inl rfl)))) fun z=>z).1
        have ex6:Ext (fun a=>a=D) β5 H5 β5 (zi H5 D (.lst (acc++[v5]))):=zd0 ⟨_,hD5⟩
        have k6: ∀{x:List V3} {v:List V},Reps κ β5 Oi H5 x v→Reps κ β5 Oi (zi H5 D (.lst (acc++[v5]))) x v:=fun r=>r.ext ex6 (fun b hb=>by rw [hb];exact .inl rfl) fun _ _ _ n=>n
        have rep6:Rep κ β5 Oi H5 y5 v5:=by
         have e:((F3.to β4 h2).to β5 h5).O=Oi:=eO3
         have q:Rep κ β5 ((F3.to β4 h2).to β5 h5).O H5 y5 v5:=rep6
         rw [e] at q;exact q
        have k45: ∀{x:List V3} {v:List V},Reps κ β4 Oi H4 x v→Reps κ β5 Oi H5 x v:=fun r=>r.ext0 e5
        refine ⟨hD5,by rw [←racc.length];exact hsz,zX,(F3.to β4 h2).to β5 h5,acc3++[y5],Rel.wrOi r6 (by show F3.Oi D;rw [hoi3];exact .inl rfl),e3.tt,hl3,hoi3,k6 (k45 (k4 rits)),k6 ((k45 (k4 racc)).append (.cons rep6 .nil)),?_,?_⟩
        ·have e45:=ex4.trans0 e5
         refine ⟨fun a u ha hn _=>?_,e45.len,e45.bet,fun a u ha=>?_,e45.nwb⟩
         ·obtain ⟨q1,q2⟩:=e45.keep a u ha hn fun z=>z
          exact ⟨by rw [zv (fun z=>by subst z;rw [hD] at ha;cases ha)];exact q1,q2⟩
         ·obtain ⟨u',hu'⟩:=e45.there a u ha
          exact ex6.there a u' hu'
        ·show Out _ _ _ _ _ _ _ ((yO I.ok g c d (I.xs.drop (i+1)) (acc3++[y5]) F3.s h5).bind _)
         rw [s3];exact out
       ·rw [if_neg hsz] at out;exact out.elim
 ·have hi:i=I.xs.length:=by omega
  subst hi
  rw [List.drop_length] at out
  unfold yO at out
  rw [if_pos hok] at out
  refine .inl ⟨i2 (Nat.le_refl _),out F'.β (.ref D) H' ex ?_⟩
  have rh:RelH κ (fun a=>a=D∨(F.to β1 h1).O a) F'.β F'.h H':=rel'.heap.sub fun a ha=>(hO a).mpr ha
  refine ⟨D,rfl,Rel.nextNew (F:=F.to β1 h1) r1 ex rh hD,⟨acc,hacc,racc.sub fun a ha=>?_⟩,hD⟩
  rcases ha with z | z
  ·rcases List.mem_cons.mp z with z | z
   ·exact .inl z
   ·exact .inr (.inl z)
  ·exact .inr (.inr z)
theorem zr3 {elt tg iter:Expr} {ifs:List Expr} {loc free:List Str} {fr:List Nat} {scope:Scope} {it:I3} {g:G3} {c:T3} {d:E3} (hc:X.calm=true) (S:CompScope X loc free fr scope) (hi:PI X tg iter (tiOf κ E it))
 (hg: ∀cl C s H ex,PG (yy X (loc++free) scope cl C s H ex) tg (yf κ g)) (ht: ∀cl C s H ex,PTs (yy X (loc++free) scope cl C s H ex) ifs (zA κ E0 c)) (he: ∀cl C s H ex,PE (yy X (loc++free) scope cl C s H ex) elt (zg κ E0 d))
 (hs: ∀x,foldedSetIterable iter X.env x=pure x:=by intro _;rfl):PE X (.ListComp elt [⟨tg,iter,ifs,0⟩] scope pos) (zg κ E (zgf loc.length fr it g c d)):=yh (zpw hc S hi hg ht he hs) fun _ _ _ h=>zlj h
theorem zir {y:Str} {py spos:Pos} {elt tg iter:Expr} {ifs:List Expr} {loc free:List Str} {fr:List Nat} {scope:Scope} {it:I3} {g:G3} {c:T3} {d:E3} (hN:X.N.Nodup) (hi':X.N[i]? =some y) (hx:X.env.scope.names.lookup y=some .local) (hc:X.calm=true) (S:CompScope X loc free fr scope) (hi:PI X tg iter (tiOf κ E it))
 (hg: ∀cl C s H ex,PG (yy X (loc++free) scope cl C s H ex) tg (yf κ g)) (ht: ∀cl C s H ex,PTs (yy X (loc++free) scope cl C s H ex) ifs (zA κ E0 c)) (he: ∀cl C s H ex,PE (yy X (loc++free) scope cl C s H ex) elt (zg κ E0 d))
 (hs: ∀x,foldedSetIterable iter X.env x=pure x:=by intro _;rfl) (hsw:swapsWith (.ListComp elt [⟨tg,iter,ifs,0⟩] scope pos) (some (.Name y py)) spos.line X.env=pure true:=by rfl):
 PS X (.Assign [.Name y py] (.ListComp elt [⟨tg,iter,ifs,0⟩] scope pos) spos) (zj κ E (sSet i (zgf loc.length fr it g c d))):=qv (zjg hN hi' hx hc S hi hg ht he hs hsw) fun D σ H h=>zlj (znc h)
end
section
variable {X:Cx} {κ:Kx} {E:XK} {F F':Fr} {σ σ':L2.St} {H H1 H':Hp} {Q:VK} {p:Addr} {e a b c o:Expr} {pos apos np cpos:Pos} {i:Nat} {D:Ends}
def eNeg (p:P3):E3:=fun s h=>(p s h).bind fun f h1=>match f with
 | .x (.int i)=> .ok (.v (.int (-i))) h1
 | _=> .no
theorem zm5 {d:P3} (ha:PE X a (zh κ E d)):PE X (.UnaryOp .USub a pos) (zg κ E (eNeg d)):=yh (zty zr6 ha) fun σ H Q ⟨F,rel,o⟩=>
 (zN (K:=kP κ) zy rel o).mono fun v H1 ⟨β1,h1,f,e1,⟨r1,rf⟩,o1⟩=>by
  match f,rf,o1 with
  | .x (.int i),rf,o1=>
   cases (show Rep κ β1 F.O H1 (.int i) v from rf)
   exact ⟨i,rfl,o1 β1 _ H1 Ext.refl ⟨r1,.int _⟩⟩
def eChain (f g:F2) (a b c:P3):E3:=fun s h=>(a s h).bind fun x h1=>(b s h1).bind fun y h2=>match f s h2 x y with
 | some (.v (.bl true))=>(c s h2).bind fun z h3=>opt h3 (g s h3 y z)
 | some (.v (.bl false))=> .ok (.v (.bl false)) h2
 | _=> .no
theorem zid {r r':R2} {f g:F2} {da db dc:P3} (hs:OpSim κ r f) (hs':OpSim κ r' g) (h:zg κ E (eChain f g da db dc) σ H Q):zj6 r r' (zh κ E da) (zh κ E db) (zh κ E dc) σ H Q:=by
 obtain ⟨F,rel,o⟩:=h
 refine (zN (K:=kP κ) zy rel o).mono fun v H1 ⟨β1,h1,f1,e1,⟨r1,rf1⟩,o1⟩=>?_
 refine (zN (F:=F.to β1 h1) (K:=kP κ) zy r1 o1).mono fun w H2 ⟨β2,h2,f2,e2,⟨r2,rf2⟩,o2⟩=>?_
 have rf1':=RfR.ext (F:=F.to β1 h1) (β':=β2) (h':=h2) r1 e2 rf1
 cases q:f F.s h2 f1 f2 with
 | none=>simp only [q] at o2;exact o2.elim
 | some z=>
  refine hs (F.to β2 h2) σ H2 f1 f2 z v w _ r2 rf1' rf2 q fun u H' e p=>?_
  match z,q,p with
  | .v (.bl true),q,p=>
   simp only [q] at o2
   cases (show Rep κ β2 F.O H' (.bl true) u from p.2)
   refine ⟨true,rfl,?_⟩
   rw [if_pos rfl]
   have o3:=Out.move (F:=F.to β2 h2) (h':=h2) zy e o2
   refine (zN (F:=F.to β2 h2) (K:=kP κ) zy p.1 o3).mono fun w3 H3 ⟨β3,h3,f3,e3,⟨r3,rf3⟩,o4⟩=>?_
   obtain ⟨z',q',k⟩:=Out.opt (F:=F.to β3 h3) rfl o4
   exact hs' (F.to β3 h3) σ H3 f2 f3 z' w w3 Q r3 (RfR.ext (F:=F.to β2 h2) (β':=β3) (h':=h3) p.1 e3 (RfR.ext (F:=F.to β2 h2) (β':=β2) (h':=h2) r2 e rf2)) rf3 q' k
  | .v (.bl false),q,p=>
   simp only [q] at o2
   cases (show Rep κ β2 F.O H' (.bl false) u from p.2)
   refine ⟨false,rfl,?_⟩
   rw [if_neg Bool.false_ne_true]
   exact o2 β2 _ H' e ⟨p.1,.bl _⟩
  | .v .non,q,p=>simp only [q] at o2;exact o2.elim
  | .v (.int _),q,p=>simp only [q] at o2;exact o2.elim
  | .v (.str _),q,p=>simp only [q] at o2;exact o2.elim
  | .v (.ty _),q,p=>simp only [q] at o2;exact o2.elim
  | .v (.tup _),q,p=>simp only [q] at o2;exact o2.elim
  | .v (.lst _),q,p=>simp only [q] at o2;exact o2.elim
  | .v (.scr _),q,p=>simp only [q] at o2;exact o2.elim
  | .v (.dK _),q,p=>simp only [q] at o2;exact o2.elim
  | .v (.dT _),q,p=>simp only [q] at o2;exact o2.elim
  | .v (.obj _ _),q,p=>simp only [q] at o2;exact o2.elim
  | .v (.cls _),q,p=>simp only [q] at o2;exact o2.elim
  | .v (.fn _ _),q,p=>simp only [q] at o2;exact o2.elim
  | .v (.loc _),q,p=>simp only [q] at o2;exact o2.elim
  | .m _,q,p=>simp only [q] at o2;exact o2.elim
theorem zhn {op op':CmpOp} {r r':R2} {f g:F2} {da db dc:P3} (hs:OpSim κ r f) (hs':OpSim κ r' g) (ho:OpR X (compareOp op) r) (ho':OpR X (compareOp op') r') (ha:PE X a (zh κ E da)) (hb:PE X b (zh κ E db)) (hc:PE X c (zh κ E dc))
 (hm:lastMarks [op,op'] [b,c]=false:=by with_unfolding_all rfl):PE X (.Compare a [op,op'] [b,c] pos) (zg κ E (eChain f g da db dc)):=yh (zmd ho ho' ha hb hc hm) fun _ _ _ h=>zid hs hs' h
theorem zik {op op':CmpOp} {r r':R2} {f g:F2} {da db dc:P3} (hs:OpSim κ r f) (hs':OpSim κ r' g) (ho:OpR X (compareOp op) r) (ho':OpR X (compareOp op') r') (ha:PE X a (zh κ E da)) (hb:PE X b (zh κ E db)) (hc:PE X c (zh κ E dc))
 (hm:lastMarks [op,op'] [b,c]=false:=by with_unfolding_all rfl):PT X (.Compare a [op,op'] [b,c] pos) (zA κ E (tE (eChain f g da db dc))):=PTw (zmt ho ho' ha hb hc hm) fun _ _ _ h=>zid hs hs' (zlp h)
abbrev Po3:=S3→H3→Res (Option Int)
def kO (κ:Kx):Kd (Option Int) (Option Int):=fun _ F σ H' i j=>j=i∧Rel κ F σ H'
theorem km_O:zg4 (kO κ):=fun _ _ _ _ _ _ _ _ _ _ _ h=>h
abbrev toOf (κ:Kx) (E:XK) (d:Po3):TO:=tOf κ E (kO κ) d
def poN:Po3:=fun _ h=> .ok none h
def qm (p:P3):Po3:=fun s h=>(p s h).bind fun f h1=>match f with
 | .x (.int i)=> .ok (some i) h1
 | _=> .no
theorem POw {e:Option Expr} {t t':TO} (h:PO X e t) (w: ∀σ H Q,t' σ H Q→t σ H Q):PO X e t':=fun pins s σ H Q I q=>h pins s σ H Q I (w σ H Q q)
theorem zqz:PO X none (toOf κ E poN):=POw zpj fun σ H Q ⟨F,rel,o⟩=>o F.β none H Ext.refl ⟨rfl,rel⟩
theorem zm3 {d:P3} (ha:PE X a (zh κ E d)):PO X (some a) (toOf κ E (qm d)):=POw (zo0 ha) fun σ H Q ⟨F,rel,o⟩=>
 (zN (K:=kP κ) km_O rel o).mono fun v H1 ⟨β1,h1,f,e1,⟨r1,rf⟩,o1⟩=>by
  match f,rf,o1 with
  | .x (.int i),rf,o1=>
   cases (show Rep κ β1 F.O H1 (.int i) v from rf)
   exact ⟨i,rfl,o1 β1 _ H1 Ext.refl ⟨rfl,r1⟩⟩
def zJ {α:Type} (xs:List α) (lo hi:Option Int):List α:=(xs.drop (HT.sIx xs.length 0 lo)).take (HT.sIx xs.length xs.length hi - HT.sIx xs.length 0 lo)
def oSl (s:S3) (h:H3) (lo hi:Option Int):Rf→Option Vl
 | .x (.tup xs)=>if HT.sIx xs.length 0 lo=0∧HT.sIx xs.length xs.length hi=xs.length then none else some (.v (.tup (zJ xs lo hi)))
 | .x (.str z)=>if z.length≤sizeLine then some (.v (.str (Txt.slice z lo hi))) else none
 | f=>(rdl s h f).map fun xs=> .m (.lst (zJ xs lo hi))
def eSl (p:P3) (lo hi:Po3):E3:=fun s h=>(p s h).bind fun f h1=>(lo s h1).bind fun l h2=>(hi s h2).bind fun u h3=>opt h3 (oSl s h3 l u f)
theorem zh3 {xs:List V3} {ys:List V} {lo hi:Option Int} (r:Reps κ F.β F.O H xs ys):Reps κ F.β F.O H (zJ xs lo hi) (cutV ys lo hi):=by
 unfold zJ cutV;rw [r.length];exact (r.drop _).take _
theorem r_sl {lo hi:Option Expr} {p2:Pos} {d:P3} {dl dh:Po3} (hK:X.K=κ.K) (he:PE X a (zh κ E d)) (hl:PO X lo (toOf κ E dl)) (hu:PO X hi (toOf κ E dh)):PE X (.Subscript a (.Slice lo hi none p2) pos) (zg κ E (eSl d dl dh)):=
 yh (zmi (sl_tup.or (sl_list.or zsh)) he hl hu) fun σ H Q ⟨F,rel,o⟩=>
 (zN (K:=kP κ) zy rel o).mono fun v H1 ⟨β1,h1,f,e1,⟨r1,rf⟩,o1⟩=>
 (zN (F:=F.to β1 h1) (K:=kO κ) zy r1 o1).mono fun l H2 ⟨β2,h2,l',e2,⟨el,r2⟩,o2⟩=>
 (zN (F:=F.to β2 h2) (K:=kO κ) zy r2 o2).mono fun u H3 ⟨β3,h3,u',e3,⟨eu,r3⟩,o3⟩=>by
  subst el;subst eu
  obtain ⟨z,q,k⟩:=Out.opt (F:=F.to β3 h3) rfl o3
  have rf3:RfR κ (F.to β3 h3) H3 f v:=RfR.ext (F:=F.to β2 h2) (β':=β3) (h':=h3) r2 e3 (RfR.ext (F:=F.to β1 h1) (β':=β2) (h':=h2) r1 e2 rf)
  rw [hK]
  have lists:(rdl F.s h3 f).map (fun xs=>Vl.m (.lst (zJ xs l u)))=some z→rSlL κ.K v l u H3 Q:=fun q=>by
   cases q1:rdl F.s h3 f with
   | none=>rw [q1] at q;cases q
   | some xs=>
    rw [q1] at q;cases q
    obtain ⟨c,ys,rfl,sq,rs⟩:=zdp (F:=F.to β3 h3) r3 rf3 q1
    exact ⟨c,ys,rfl,sq,fun p hp=>k _ _ (yj hp) (Post.lst r3 hp (zh3 rs))⟩
  match f,rf3,q,lists with
  | .s i,rf3,q,lists=>exact .inr (.inl (lists q))
  | .x (.lst _),rf3,q,lists=>exact .inr (.inl (lists q))
  | .x (.scr _),rf3,q,lists=>exact .inr (.inl (lists q))
  | .x (.loc _),rf3,q,lists=>exact .inr (.inl (lists q))
  | .x (.tup xs),rf3,q,lists=>
   have q:(if HT.sIx xs.length 0 l=0∧HT.sIx xs.length xs.length u=xs.length then none else some (Vl.v (.tup (zJ xs l u))))=some z:=q
   by_cases hw:HT.sIx xs.length 0 l=0∧HT.sIx xs.length xs.length u=xs.length
   ·rw [if_pos hw] at q;cases q
   ·rw [if_neg hw] at q;cases q
    cases (show Rep κ β3 F.O H3 (.tup xs) v from rf3) with
    | tup h1 h2 h3' h4=>exact .inl ⟨_,_,rfl,.of h1,by rw [←h4.length];exact hw,fun p hp=>k _ _ (yj hp) (Post.tup r3 hp (zh3 (F:=F.to β3 h3) h4))⟩
  | .x (.str zz),rf3,q,lists=>
   obtain ⟨hz,rfl⟩:=qq q
   cases (show Rep κ β3 F.O H3 (.str zz) v from rf3)
   exact .inr (.inr ⟨zz,rfl,hz,k _ H3 Ext.refl ⟨r3,.str _⟩⟩)
def wr3 (s:S3) (h:H3) (c:C3):Rf→Option (S3×H3)
 | .s i=>some (s.set i (some (.m c)),h)
 | .x (.loc n)=>some (s,h.set n c)
 | _=>none
theorem Rel.wrSlot {l:Addr} {c0 c':C3} {u:HO} (rel:Rel κ F σ H) (hl:F.l[i]? =some (some l)) (hs:F.s[i]? =some (some (.m c0))) (hc:CellR κ F.β F.O (zi H l u) c' l):
  Rel κ {F with s:=F.s.set i (some (.m c'))} σ (zi H l u):=by
 have hO:F.O l:= .inr (.inl (List.mem_of_getElem? hl))
 have ex:=zd0 (β:=F.β) (o:=u) (rel.heap.trk' l hO)
 refine ⟨rel.heap.wrO hO hc.nt,?_,?_,rel.linj,rel.lt,rel.lo,rel.to,rel.tn,fun j y hj=>?_⟩
 ·show (F.s.set i _).length=_;rw [List.length_set];exact rel.slen
 ·show F.l.length=(F.s.set i _).length;rw [List.length_set];exact rel.llen
 ·rcases ql hj with ⟨e1,e2⟩ | ⟨n,z⟩
  ·subst e1;cases e2
   obtain ⟨v,h1,a,h2,h3,_⟩:=rel.slot i _ hs
   rw [hl] at h2;cases h2
   exact ⟨v,h1,l,hl,h3,hc⟩
  ·obtain ⟨v,h1,h2⟩:=rel.slot j y z
   refine ⟨v,h1,?_⟩
   cases y with
   | v x=>exact Rep.ext ex (fun b hb=>by rw [hb];exact hO) (fun _ _ _ n=>n) h2
   | m c=>
    obtain ⟨a,a1,a2,a3⟩:=h2
    refine ⟨a,a1,a2,a3.ext ex (fun b hb=>by rw [hb];exact hO) (fun _ _ _ n=>n) fun w hw=>?_⟩
    rw [zv (fun z=>by subst z;exact n (rel.linj i j a hl a1))];exact hw
theorem zkr {β:List (Option Addr)} {l:Addr} {o:HO} {n:Nat} (hb:β[n]? =some (some l)) (ho: ∃u,H l=some u):Ext No β H β (zi H l o):=
 ⟨fun a u ha hn _=>⟨by rw [zv (fun z=>by subst z;exact hn (List.mem_of_getElem? hb))];exact ha,hn⟩,Nat.le_refl _,fun _ _ _ h=>h,fun a u ha=>by
  by_cases z:a=l
  ·subst z;exact ⟨o,zX⟩
  ·exact ⟨u,by rw [zv z];exact ha⟩,nwb0⟩
theorem RelH.wrLoc {O:Addr→Prop} {β:List (Option Addr)} {h:H3} {l:Addr} {n:Nat} {c':C3} {u:HO} (r:RelH κ O β h H) (hb:β[n]? =some (some l)) (hc:CellR κ β O (zi H l u) c' l):RelH κ O β (h.set n c') (zi H l u):=by
 have ex:=zkr (o:=u) hb (r.btr' n l hb)
 have th: ∀a w,H a=some w→(∀ys,w≠HO.tup ys)→∃w,zi H l u a=some w∧∀ys,w≠HO.tup ys:=fun a w q n=>by
  by_cases z:a=l
  ·subst z;exact ⟨u,zX,hc.nt⟩
  ·exact ⟨w,by rw [zv z];exact q,n⟩
 refine ⟨by rw [List.length_set];exact r.len,r.inj,r.off,fun a ha=>let ⟨w,q,n⟩:=r.trk a ha;th a w q n,fun i a q=>let ⟨w,z,n⟩:=r.btr i a q;th a w z n,fun i c hi=>?_⟩
 rcases ql hi with ⟨e1,e2⟩ | ⟨ne,z⟩
 ·subst e1;subst e2;exact .inr ⟨l,hb,hc⟩
 ·refine (r.cell i c z).imp id fun ⟨a,ha,q⟩=>⟨a,ha,q.ext ex (fun _ z=>z.elim) (fun _ _ _ n=>n) fun w hw=>?_⟩
  rw [zv (fun z=>by subst z;exact ne (r.inj n i a hb ha))];exact hw
theorem zh4 {f:Rf} {v:V} {xs ys:List V3} {s':S3} {h':H3} (ht:F.T=[]) (rel:Rel κ F σ H) (r:RfR κ F H f v) (e:rdm F.s F.h f=some xs) (hw:wr3 F.s F.h (.lst ys) f=some (s',h')):
  ∃l us,v= .ref l∧H l=some (.lst us)∧Reps κ F.β F.O H xs us∧∀ws,Reps κ F.β F.O H ys ws→∃F',SExt F H F' (zi H l (.lst ws))∧F'.s=s'∧F'.h=h'∧Rel κ F' σ (zi H l (.lst ws)):=by
 cases f with
 | s i=>
  cases hw
  obtain ⟨a,c,h1,h2,h3,h4⟩:=r
  have e:rdl F.s F.h (.s i)=some xs:=e
  simp only [rdl,h3] at e
  cases c <;> simp at e
  subst e
  obtain ⟨us,h5,h6⟩:=h4
  have hO:F.O a:= .inr (.inl (List.mem_of_getElem? h1))
  refine ⟨a,us,h2,h5,h6,fun ws hr=>⟨{F with s:=F.s.set i (some (.m (.lst ys)))},⟨⟨fun b u hb hn m=>⟨by rw [zv (fun z=>by subst z;exact m (List.mem_of_getElem? h1))];exact hb,hn⟩,Nat.le_refl _,fun _ _ _ h=>h,(zd0 (β:=F.β) ⟨_,h5⟩).there,nwb0⟩,fun _ h=> .inl h,rfl,ht⟩,rfl,rfl,rel.wrSlot h1 h3 ⟨ws,zX,hr.ext (zd0 (β:=F.β) ⟨_,h5⟩) (fun b hb=>by rw [hb];exact hO) fun _ _ _ n=>n⟩⟩⟩
 | x y=>
  cases y <;> simp [wr3] at hw
  case loc n=>
   obtain ⟨rfl,rfl⟩:=hw
   cases r with
   | loc h1 h2=>
    have e:rdl F.s F.h (.x (.loc n))=some xs:=e
    simp only [rdl] at e
    cases q:F.h[n]? with
    | none=>rw [q] at e;cases e
    | some c=>
     rw [q] at e
     cases c <;> simp at e
     subst e
     rcases rel.heap.cell n _ q with z | ⟨a,ha,us,h5,h6⟩
     ·cases z
     ·have ex:=fun o=>zkr (o:=o) ha ⟨_,h5⟩
      refine ⟨a,us,h2 a ha,h5,h6,fun ws hr=>⟨F.to F.β (F.h.set n (.lst ys)),SExt.of0 ht (ex _),rfl,rfl,rel.next (ex _) (rel.heap.wrLoc ha ⟨ws,zX,hr.ext0 (ex _)⟩)⟩⟩
abbrev FM:=List V3→List V3→Option (List V3×V3)
def mtO (op:FM) (p:P3) (a:A3) (k:S3→H3→V3→O3):D3:=fun s h=>(p s h).bindS fun f h1=>match rdm s h1 f with
 | none=> .no
 | some _=>(a s h1).bindS fun fs h2=>match vals3 fs,rdm s h2 f with
  | some vs,some xs=>match op xs vs with
   | some (ys,r)=>match wr3 s h2 (.lst ys) f with
    | some (s3,h3)=>k s3 h3 r
    | none=> .no
   | none=> .no
  | _,_=> .no
def sMt (op:FM) (p:P3) (a:A3):D3:=mtO op p a fun s h _=> .nx s h
def zpl (κ:Kx) (r:V→List V→Hp→VK→Prop) (op:FM):Prop:=∀(β:List (Option Addr)) (O:Addr→Prop) (H:Hp) (l:Addr) (xs ys vs:List V3) (us ws:List V) (rt:V3) (Q:VK),H l=some (.lst us)→Reps κ β O H xs us→Reps κ β O H vs ws→op xs vs=some (ys,rt)→
 (∀us' rt',Reps κ β O H ys us'→Rep κ β O H rt rt'→Q rt' (zi H l (.lst us')))→r (.ref l) ws H Q
theorem zp9 {r:V→List V→Hp→VK→Prop} {op:FM} {dp:P3} {da:A3} {k:S3→H3→V3→O3} (hs:zpl κ r op) (rel:Rel κ F σ H) (ht:F.T=[]) (o:SOut κ E F H D (mtO op dp da k F.s F.h)) {Q:VK}
  (hQ: ∀F' rt Fm Hm v H3,SExt Fm Hm F' H3→F'.s.length=F.s.length→Rel κ F' σ H3→Rep κ F'.β F'.O H3 rt v→SOut κ E Fm Hm D (k F'.s F'.h rt)→Q v H3):
  tBM κ.K "list" r (zh κ E dp) (zw κ E da) σ H Q:=by
 refine (bindS (K:=kP κ) rel ht o).mono fun v H1 ⟨β1,h1,f,e1,⟨r1,rf⟩,o1⟩=>?_
 cases q:rdm F.s h1 f with
 | none=>simp only [q] at o1;exact o1.elim
 | some xs0=>
  simp only [q] at o1
  obtain ⟨a,ys,rfl,ha,_⟩:=zen (F:=F.to β1 h1) r1 rf q
  refine ⟨.inl ⟨rfl,ys,.of ha⟩,?_⟩
  have s1:SExt F H (F.to β1 h1) H1:=SExt.of0 ht e1
  refine (bindS (F:=F.to β1 h1) (K:=kA κ) r1 ht (SOut.move s1 o1)).mono fun ws H2 ⟨β2,h2,fs,e2,⟨r2,rfs⟩,o2⟩=>?_
  have rf2:=RfR.ext (F:=F.to β1 h1) (β':=β2) (h':=h2) r1 e2 rf
  have s2:SExt (F.to β1 h1) H1 (F.to β2 h2) H2:=SExt.of0 (F:=F.to β1 h1) ht e2
  cases q1:vals3 fs with
  | none=>simp only [q1] at o2;exact o2.elim
  | some vs=>
   cases q2:rdm F.s h2 f with
   | none=>simp only [q1,q2] at o2;exact o2.elim
   | some xs=>
    simp only [q1,q2] at o2
    cases q3:op xs vs with
    | none=>simp only [q3] at o2;exact o2.elim
    | some w=>
     obtain ⟨zs,rt⟩:=w
     simp only [q3] at o2
     cases q4:wr3 F.s h2 (.lst zs) f with
     | none=>simp only [q4] at o2;exact o2.elim
     | some w=>
      obtain ⟨s3,h3⟩:=w
      simp only [q4] at o2
      obtain ⟨l,us,ev,hl,rs,wk⟩:=zh4 (F:=F.to β2 h2) ht r2 rf2 q2 q4
      cases ev
      refine hs β2 F.O H2 a xs zs vs us ws rt _ hl rs (zc9 rfs q1) q3 fun us' rt' r1' r2'=>?_
      obtain ⟨F',e',es,eh,rel'⟩:=wk us' r1'
      refine hQ F' rt (F.to β2 h2) H2 _ _ e' (by rw [rel'.slen,←rel.slen]) rel' (Rep.sext (F:=F.to β2 h2) e' r2') ?_
      rw [es,eh]
      exact SOut.move s2 o2
theorem zja {es:List Expr} {name:Str} {id:String} {r:V→List V→Hp→VK→Prop} {op:FM} {dp:P3} {da:A3} (hs:zpl κ r op) (hK:X.K=κ.K) (slot:Slot "list" name id) (hty:typeOf (.builtin id)=pure (.type "method_descriptor")) (hm:MtR X id r) (ho:PE X o (zh κ E dp)) (ha:PA X (e::es) (zw κ E da))
  (hbase:attributeBase o name X.env (eval o X.env)=eval o X.env:=by rfl)
  (hfew:((backTo cpos (starEach (e::es) X.env)).all (fun x=> !x.1) && (backToKw cpos (keywordEach [] X.env)).all (fun x=>x.1.isSome)
   && decide ((e::es).length+([]:List Keyword).length+(if ([]:List Keyword).isEmpty then 0 else 1) < 30))=true:=by rfl)
  (hline:(apos.endLine==cpos.line)=true:=by rfl) (hst:starEach (e::es) X.env=(false,eval e X.env)::starEach es X.env:=by rfl) (hplain:(backTo cpos (starEach es X.env)).any (·.1)=false:=by rfl)
  (hsw:swapsWith (.Call (.Attribute o name apos) (e::es) [] cpos) none pos.line X.env=pure false:=by rfl):
  PS X (.Expr (.Call (.Attribute o name apos) (e::es) [] cpos) pos) (zj κ E (sMt op dp da)):=qv (zk0 (ztr PySem.F.plainAttrs_list slot hty hm ho ha hbase hfew hline hst hplain) hsw) fun D σ H ⟨F,rel,ht,o⟩=>by
 rw [hK]
 exact zp9 hs rel ht o fun F' rt Fm Hm v H3 e' _ rel' _ o'=>o' F' σ H3 e' rfl rfl rel'
def yJ:FM:=fun xs vs=>match vs with
 | [y]=>if xs.length < sizeLine then some (xs++[y],.non) else none
 | _=>none
theorem zcu:zpl κ zjn yJ:=fun β O H l xs ys vs us ws rt Q hl rx rv e k=>by
 unfold yJ at e
 split at e
 ·obtain ⟨h,e⟩:=qq e
  cases e
  cases rv with
  | cons a t=>cases t;exact ⟨l,us,_,rfl,rfl,hl,by rw [←rx.length];exact h,k _ _ (rx.append (.cons a .nil)) .non⟩
 ·cases e
end
section
variable {X:Cx} {κ:Kx} {E:XK} {F F':Fr} {σ σ':L2.St} {H H1 H':Hp} {Q:VK} {p:Addr} {e a b c o:Expr} {pos apos np cpos:Pos} {i:Nat} {D:Ends}
def yS (p i:P3) (e:E3):D3:=fun s h=>(e s h).bindS fun r h1=>match r.fz with
 | none=> .no
 | some y=>(p s h1).bindS fun f h2=>(i s h2).bindS fun j h3=>match j,rdm s h3 f with
  | .x (.int k),some xs=>match yn xs.length k with
   | some n=>match wr3 s h3 (.lst (xs.set n y)) f with
    | some (s',h')=> .nx s' h'
    | none=> .no
   | none=> .no
  | _,_=> .no
theorem zmg {dp di:P3} {d:E3} (h:zj κ E (yS dp di d) D σ H):tAsg (zg κ E d) (gSub (zh κ E dp) (zh κ E di) zpb) D σ H:=by
 obtain ⟨F,rel,ht,o⟩:=h
 refine (bindS (K:=kE κ) rel ht o).mono fun v H1 ⟨β1,h1,r,e1,p1,o1⟩=>?_
 cases z:r.fz with
 | none=>simp only [z] at o1;exact o1.elim
 | some y=>
  simp only [z] at o1
  obtain ⟨r1,ry⟩:=Post.fz p1 z
  have s1:SExt F H (F.to β1 h1) H1:=SExt.of0 ht e1
  refine (bindS (F:=F.to β1 h1) (K:=kP κ) r1 ht (SOut.move s1 o1)).mono fun ov H2 ⟨β2,h2,f,e2,⟨r2,rf⟩,o2⟩=>?_
  have s2:SExt (F.to β1 h1) H1 (F.to β2 h2) H2:=SExt.of0 (F:=F.to β1 h1) ht e2
  refine (bindS (F:=F.to β2 h2) (K:=kP κ) r2 ht (SOut.move s2 o2)).mono fun iv H3 ⟨β3,h3,j,e3,⟨r3,rj⟩,o3⟩=>?_
  have s3:SExt (F.to β2 h2) H2 (F.to β3 h3) H3:=SExt.of0 (F:=F.to β2 h2) ht e3
  have rf3:=RfR.ext (F:=F.to β2 h2) (β':=β3) (h':=h3) r2 e3 rf
  have ry3:Rep κ β3 F.O H3 y v:=(Rep.ext0 e3 (Rep.ext0 e2 ry))
  match j,rj,o3 with
  | .s _,rj,o3=>exact o3.elim
  | .x (.int k),rj,o3=>
   cases q:rdm F.s h3 f with
   | none=>simp only [q] at o3;exact o3.elim
   | some xs=>
    simp only [q] at o3
    cases q2:yn xs.length k with
    | none=>simp only [q2] at o3;exact o3.elim
    | some n=>
     simp only [q2] at o3
     cases q3:wr3 F.s h3 (.lst (xs.set n y)) f with
     | none=>simp only [q3] at o3;exact o3.elim
     | some w=>
      obtain ⟨s',h'⟩:=w
      simp only [q3] at o3
      obtain ⟨l,us,ev,hl,rs,wk⟩:=zh4 (F:=F.to β3 h3) ht r3 rf3 q q3
      subst ev
      cases (show Rep κ β3 F.O H3 (.int k) iv from rj)
      obtain ⟨F',e',es,eh,rel'⟩:=wk (us.set n v) (rs.set ry3 n)
      exact ⟨l,us,k,n,rfl,rfl,hl,by rw [←rs.length];exact q2,SOut.move s3 o3 F' σ _ e' es eh rel'⟩
theorem zgg {tp:Pos} {ii:Expr} {dp di:P3} {d:E3} (he:PE X e (zg κ E d)) (ho:PE X o (zh κ E dp)) (hi:PE X ii (zh κ E di))
 (hh: ∀{te to ti:TE},PE X e te→PE X o to→PE X ii ti→PS X (.Assign [.Subscript o ii tp] e pos) (tAsg te (gSub to ti zpb))):PS X (.Assign [.Subscript o ii tp] e pos) (zj κ E (yS dp di d)):=qv (hh he ho hi) fun D σ H h=>zmg h
end
section
variable {X:Cx} {κ:Kx} {E:XK} {F F':Fr} {σ σ':L2.St} {H H1 H':Hp} {Q:VK} {p:Addr} {e a b c o:Expr} {pos apos np cpos:Pos} {i:Nat} {D:Ends} {β:List (Option Addr)} {O:Addr→Prop}
open Classical in
def iS (p:P3):I3:=fun s h=>(p s h).bind fun f h1=>match f with
 | .x (.str z)=> .ok ⟨[],z.cps.toList.map fun c=> .str ⟨#[c]⟩,fun _=>True⟩ h1
 | _=> .no
theorem zsi {tg l:Expr} {d:P3} (hl:PE X l (zh κ E d)):PI X tg l (tiOf κ E (iS d)):=PIw (zqn hl) fun σ H R ⟨F,rel,o⟩=>
 (zN (K:=kP κ) km_I rel o).mono fun v H1 ⟨β1,h1,f,e1,⟨r1,rf⟩,o1⟩=>by
  match f,rf,o1 with
  | .x (.str z),rf,o1=>
   cases (show Rep κ β1 F.O H1 (.str z) v from rf)
   refine ⟨z,rfl,o1 β1 _ H1 Ext.refl ⟨r1,[],.nil,fun F' σ' H' rel' _ _ i=>?_⟩⟩
   have el:(z.cps.toList.map fun c=>V3.str ⟨#[c]⟩).length=z.length:=by simp [Str.length]
   refine ⟨fun hi=>⟨show i < z.length by rw [el] at hi;exact hi,fun x H'' ⟨e1,c,hc,e2⟩=>?_⟩,fun hi=>show z.length≤i by rw [el] at hi;exact hi⟩
   subst e1;subst e2
   refine ⟨.str ⟨#[c]⟩,?_,Ext.refl,rel',.str _⟩
   rw [List.getElem?_map,Array.getElem?_toList,hc];rfl
def oInS (neg:Bool):F2:=fun _ _ x y=>match x,y with
 | .x (.str i),.x (.str j)=>some (.v (.bl (if neg then !(!(Builtin.Str.occurrences j i 0 j.length 1).isEmpty) else !(Builtin.Str.occurrences j i 0 j.length 1).isEmpty)))
 | _,_=>none
theorem zkx:OpSim κ (fun x y H Q=> ∃i j,x= .str i∧y= .str j∧Q (.bl (!(Builtin.Str.occurrences j i 0 j.length 1).isEmpty)) H) (oInS false):=fun F σ H x y z v w Q rel rx ry e k=>by
 unfold oInS at e
 split at e
 ·rename_i i j
  cases e
  cases (show Rep κ F.β F.O H (.str i) v from rx)
  cases (show Rep κ F.β F.O H (.str j) w from ry)
  exact ⟨i,j,rfl,rfl,k _ H Ext.refl ⟨rel,.bl _⟩⟩
 ·cases e
def inO (neg:Bool) (s:S3) (h:H3) (x y:Rf):Option Bool:=match x with
 | .x a=>match (match y with | .x (.tup xs)=>some xs | f=>rdl s h f) with
  | some xs=>(zH (fun b=>zp h 8 b a) xs).map fun bs=>if neg then !bs.any id else bs.any id
  | none=>none
 | _=>none
end
section
variable {X:Cx} {κ:Kx} {E:XK} {F F':Fr} {σ σ':L2.St} {H H1 H':Hp} {Q:VK} {p:Addr} {e a b c o:Expr} {es:List Expr} {pos apos np cpos:Pos} {i:Nat} {D:Ends}
theorem qo {A:Around} {k:Nat} (hr:Room k A):A.units+9 < cLine:=by have:=hr.units;omega
theorem zkf: ∀xs s s',gsNil xs s=some s'→xs.length=0:=fun xs s s' e=>by
 cases xs with
 | nil=>rfl
 | cons _ _=>cases e
theorem zbt {g:G3} {gs:Gs3} {n:Nat} (h: ∀xs s s',gs xs s=some s'→xs.length=n): ∀xs s s',gsCons g gs xs s=some s'→xs.length=n+1:=fun xs s s' e=>by
 cases xs with
 | nil=>cases e
 | cons x r=>
  simp only [gsCons] at e
  cases q:g x s with
  | none=>rw [q] at e;cases e
  | some s1=>rw [q] at e;rw [List.length_cons,h r s1 s' e]
def sAug (i:Nat) (f:F2) (p:P3):D3:=fun s h=>match s[i]? with
 | some (some (.v x))=>(p s h).bindS fun y h1=>match f s h1 (.x x) y with
  | some (.v z)=> .nx (s.set i (some (.v z))) h1
  | _=> .no
 | _=> .no
def qj (neg:Bool):F2:=fun s h x y=>(inO neg s h x y).map fun b=> .v (.bl b)
def rInT (κ:Kx) (neg:Bool):R2:=fun v w H Q=> ∃F σ x y b,Rel κ F σ H∧RfR κ F H x v∧RfR κ F H y w∧inO neg F.s F.h x y=some b∧Q (.bl b) H
theorem zp6 {neg:Bool}:OpSim κ (rInT κ neg) (qj neg):=fun F σ H x y z v w Q rel rx ry e k=>by
 unfold qj at e
 cases q:inO neg F.s F.h x y with
 | none=>rw [q] at e;cases e
 | some b=>rw [q] at e;cases e;exact ⟨F,σ,x,y,b,rel,rx,ry,q,k _ H Ext.refl ⟨rel,.bl _⟩⟩
theorem zn0:OpSim κ (rInT κ false) (qj false):=zp6
theorem zkb {h:H3} {n:Nat} (rel:RelH κ F.O F.β h H) (hh:F.h=h) (ih: ∀{x x' z:V3} {v:V} {b b':Bool},Rep κ F.β F.O H x v→Rep κ F.β F.O H x' v→zp h n x z=some b→zp h n x' z=some b'→b=b'):
  ∀{xs xs' zs:List V3} {vs:List V} {b b':Bool},Reps κ F.β F.O H xs vs→Reps κ F.β F.O H xs' vs→z4 (zp h n) xs zs=some b→z4 (zp h n) xs' zs=some b'→b=b':=by
 intro xs
 induction xs with
 | nil=>intro xs' zs vs b b' r1 r2 e1 e2;cases r1;cases r2;rw [e1] at e2;cases e2;rfl
 | cons x xs ihx=>
  intro xs' zs vs b b' r1 r2 e1 e2
  cases r1 with
  | cons a1 t1=>
   cases r2 with
   | @cons x' _ xs' _ a2 t2=>
    cases zs with
    | nil=>unfold z4 at e1 e2;cases e1;cases e2;rfl
    | cons z zs=>
     unfold z4 at e1 e2
     cases q1:zp h n x z with
     | none=>simp only [q1] at e1;cases e1
     | some c1=>
      cases q2:z4 (zp h n) xs zs with
      | none=>simp only [q1,q2] at e1;cases e1
      | some c2=>
       cases q3:zp h n x' z with
       | none=>simp only [q3] at e2;cases e2
       | some c3=>
        cases q4:z4 (zp h n) xs' zs with
        | none=>simp only [q3,q4] at e2;cases e2
        | some c4=>
         simp only [q1,q2] at e1;simp only [q3,q4] at e2
         cases e1;cases e2
         rw [ih a1 a2 q1 q3,ihx t1 t2 q2 q4]
theorem zhq (rel:RelH κ F.O F.β F.h H): ∀(n:Nat) {x x' z:V3} {v:V} {b b':Bool},Rep κ F.β F.O H x v→Rep κ F.β F.O H x' v→zp F.h n x z=some b→zp F.h n x' z=some b'→b=b'
 | 0,x,x',z,v,b,b',rx,rx',e,e'=>by
  have kx:=qc rel rx
  have kx':=qc rel rx'
  unfold zp at e e'
  cases h1:zL F.h x <;> cases h2:zL F.h x' <;> cases h3:zL F.h z <;> simp only [h1,h2,h3] at e e' kx kx' <;> first | (cases e;done) | (cases e';done) | skip
  rw [kx.1] at kx'
  rw [kx'.1] at e
  rw [e] at e';cases e';rfl
 | n+1,x,x',z,v,b,b',rx,rx',e,e'=>by
  have kx:=qc rel rx
  have kx':=qc rel rx'
  unfold zp at e e'
  have nof: ∀{a0:V} {a:Addr},v=a0∧zf3 a0=true→v= .ref a→False:=fun h1 h2=>by rw [←h1.1,h2] at h1;exact absurd h1.2 (by simp [zf3])
  cases h1:zL F.h x <;> cases h2:zL F.h x' <;> simp only [h1,h2] at kx kx'
  case o.f=>cases h3:zL F.h z <;> simp only [h1,h3] at e <;> simp only [h2,h3] at e' <;> first | (cases e;done) | (cases e';done)
  case o.l=>cases h3:zL F.h z <;> simp only [h1,h3] at e <;> simp only [h2,h3] at e' <;> first | (cases e;done) | (cases e';done)
  case o.t=>cases h3:zL F.h z <;> simp only [h1,h3] at e <;> simp only [h2,h3] at e' <;> first | (cases e;done) | (cases e';done)
  case o.o=>
   cases h3:zL F.h z <;> simp only [h1,h3] at e <;> simp only [h2,h3] at e' <;> first | (cases e;done) | skip
   split at e <;> cases e
   split at e' <;> cases e'
   rfl
  case f.o=>cases h3:zL F.h z <;> simp only [h1,h3] at e <;> simp only [h2,h3] at e' <;> first | (cases e;done) | (cases e';done)
  case l.o=>cases h3:zL F.h z <;> simp only [h1,h3] at e <;> simp only [h2,h3] at e' <;> first | (cases e;done) | (cases e';done)
  case t.o=>cases h3:zL F.h z <;> simp only [h1,h3] at e <;> simp only [h2,h3] at e' <;> first | (cases e;done) | (cases e';done)
  case f.l=>obtain ⟨a,_,ev,_⟩:=kx';exact (nof kx ev).elim
  case f.t=>obtain ⟨a,_,ev,_⟩:=kx';exact (nof kx ev).elim
  case l.f=>obtain ⟨a,_,ev,_⟩:=kx;exact (nof kx' ev).elim
  case t.f=>obtain ⟨a,_,ev,_⟩:=kx;exact (nof kx' ev).elim
  case l.t=>obtain ⟨a,_,ev,k1,_⟩:=kx;obtain ⟨a',_,ev',k2,_⟩:=kx';rw [ev] at ev';cases ev';rw [k1] at k2;cases k2
  case t.l=>obtain ⟨a,_,ev,k1,_⟩:=kx;obtain ⟨a',_,ev',k2,_⟩:=kx';rw [ev] at ev';cases ev';rw [k1] at k2;cases k2
  case f.f a a'=>
   have:a=a':=by rw [←kx.1,←kx'.1]
   subst this
   cases h3:zL F.h z <;> simp only [h1,h3] at e <;> simp only [h2,h3] at e' <;> first | (cases e;done) | (cases e;cases e';rfl)
  case l.l xs xs'=>
   obtain ⟨a,us,ev,k1,r1⟩:=kx
   obtain ⟨a',us',ev',k2,r2⟩:=kx'
   rw [ev] at ev';cases ev'
   rw [k1] at k2;cases k2
   have hl:xs.length=xs'.length:=by rw [r1.length,r2.length]
   cases h3:zL F.h z <;> simp only [h1,h3] at e <;> simp only [h2,h3] at e' <;> first | (cases e;done) | (cases e;cases e';rfl) | skip
   case l zs=>
    by_cases hz:xs.length=zs.length
    ·rw [if_pos hz] at e;rw [if_pos (by omega)] at e'
     exact zkb rel rfl (fun a b c d=>zhq rel n a b c d) r1 r2 e e'
    ·rw [if_neg hz] at e;rw [if_neg (by omega)] at e';cases e;cases e';rfl
  case t.t xs xs'=>
   obtain ⟨a,us,ev,k1,r1⟩:=kx
   obtain ⟨a',us',ev',k2,r2⟩:=kx'
   rw [ev] at ev';cases ev'
   rw [k1] at k2;cases k2
   have hl:xs.length=xs'.length:=by rw [r1.length,r2.length]
   cases h3:zL F.h z <;> simp only [h1,h3] at e <;> simp only [h2,h3] at e' <;> first | (cases e;done) | (cases e;cases e';rfl) | skip
   case t zs=>
    cases q1:z4 (zp F.h n) xs zs with
    | none=>rw [q1] at e;cases e
    | some c1=>
     cases q2:z4 (zp F.h n) xs' zs with
     | none=>rw [q2] at e';cases e'
     | some c2=>
      rw [q1] at e;rw [q2] at e';cases e;cases e'
      rw [zkb rel rfl (fun a b c d=>zhq rel n a b c d) r1 r2 q1 q2,hl]
end
section
variable {X:Cx} {κ:Kx} {E:XK} {F F':Fr} {σ σ':L2.St} {H H1 H':Hp} {Q:VK} {p:Addr} {e a b c o:Expr} {es:List Expr} {pos apos np cpos:Pos} {i:Nat} {D:Ends}
theorem zh2 {α β:Type} {f:α→Option β}: ∀{l:List α} {m:List β},zH f l=some m→l.length=m.length∧∀(j:Nat) x,l[j]? =some x→∃y,m[j]? =some y∧f x=some y
 | [],_,e=>by cases e;exact ⟨rfl,fun j x h=>by simp at h⟩
 | x::r,m,e=>by
  obtain ⟨y,l',h1,h2,rfl⟩:=zg3 e
  obtain ⟨i1,i2⟩:=zh2 h2
  refine ⟨by simp [i1],fun j x' h=>?_⟩
  cases j with
  | zero=>simp at h;subst h;exact ⟨y,rfl,h1⟩
  | succ j=>exact i2 j x' (by simpa using h)
open Classical in
theorem zn1 {pins:List (Addr×Obj)} {s:Shared} {σ2:L2.St} {xs:List V3} {us:List V} {its:List Value} {bs:List Bool} {x3:V3} {v:V} {vv:Value} {A:Around} (I:Inv X pins σ2 H s) (rel:RelH κ F.O F.β F.h H) (rs:Reps κ F.β F.O H xs us) (rv:Vals us its) (rx:Rep κ F.β F.O H x3 v) (rvv:RelV v vv) (q:zH (fun b=>zp F.h 8 b x3) xs=some bs) (hu:A.units+8 < cLine):
  ∃e:Value→Bool,(∀y,y∈its.toArray→SeqAt.EqAt A s y vv (e y))∧its.toArray.any e=bs.any id:=by
 obtain ⟨hl,hg⟩:=zh2 q
 have l1:=rs.length
 have l2:=rv.length
 let e:Value→Bool:=fun y=>decide (∃(j:Nat) (z:V3),xs[j]? =some z∧its[j]? =some y∧zp F.h 8 z x3=some true)
 have at': ∀(j:Nat) (y:Value),its[j]? =some y→∃z u b,xs[j]? =some z∧us[j]? =some u∧RelV u y∧Rep κ F.β F.O H z u∧bs[j]? =some b∧zp F.h 8 z x3=some b∧e y=b:=fun j y hy=>by
  have hj:j < its.length:=(List.getElem?_eq_some_iff.mp hy).1
  obtain ⟨u,hu',ru⟩:=rs.get (zR (show j < xs.length by omega))
  obtain ⟨y',hy',ry'⟩:=rv.get hu'
  rw [hy] at hy';cases hy'
  obtain ⟨b,hb,eb⟩:=hg j _ (zR (show j < xs.length by omega))
  refine ⟨_,u,b,zR (show j < xs.length by omega),hu',ry',ru,hb,eb,?_⟩
  cases b with
  | true=>exact decide_eq_true ⟨j,_,zR (show j < xs.length by omega),hy,eb⟩
  | false=>
   refine decide_eq_false fun ⟨j',z',h1,h2,h3⟩=>?_
   obtain ⟨u',hu2,ru2⟩:=rs.get h1
   obtain ⟨y2,hy2,ry2⟩:=rv.get hu2
   rw [h2] at hy2;cases hy2
   have:=RelV.inj ry' ry2
   subst this
   have:=zhq rel 8 ru ru2 eb h3
   cases this
 refine ⟨e,fun y hy=>?_,?_⟩
 ·obtain ⟨j,hj⟩:=List.getElem?_of_mem (show y∈its by simpa using hy)
  obtain ⟨z,u,b,h1,h2,h3,h4,h5,h6,h7⟩:=at' j y hj
  rw [h7]
  exact (zoz rel 8 I h4 rx h3 rvv h6 hu).2
 ·rw [List.any_toArray,Bool.eq_iff_iff,List.any_eq_true,List.any_eq_true]
  constructor
  ·rintro ⟨y,hy,ey⟩
   obtain ⟨j,hj⟩:=List.getElem?_of_mem hy
   obtain ⟨z,u,b,h1,h2,h3,h4,h5,h6,h7⟩:=at' j y hj
   rw [h7] at ey;subst ey
   exact ⟨true,List.mem_of_getElem? h5,rfl⟩
  ·rintro ⟨b,hb,eb⟩
   have eb:b=true:=eb
   subst eb
   obtain ⟨j,hj⟩:=List.getElem?_of_mem hb
   have hj2:j < its.length:=by have:=(List.getElem?_eq_some_iff.mp hj).1;omega
   obtain ⟨z,u,b,h1,h2,h3,h4,h5,h6,h7⟩:=at' j _ (zR hj2)
   rw [hj] at h5;cases h5
   exact ⟨_,List.getElem_mem hj2,h7⟩
theorem zqq (neg:Bool) (hK:X.K=κ.K) (hu:X.A.units+9 < cLine):OpR X (compareOp (if neg then .NotIn else .In)) (rInT κ neg):=by
 intro pins s σ H x y v u Q I rx ry h
 obtain ⟨F,σ',x3,y3,b,rel,r1,r2,e,q⟩:=h
 unfold inO at e
 cases x3 with
 | s i=>cases e
 | x a=>
  have r1:Rep κ F.β F.O H a x:=r1
  simp only at e
  have fin: ∀{bs:List Bool},b=(if neg then !bs.any id else bs.any id)→EP X pins σ Q (.bool (if neg then !bs.any id else bs.any id)) s:=fun hb=>⟨.bl b,H,I,by rw [hb];rfl,q⟩
  have lists: ∀xs,rdl F.s F.h y3=some xs→(zH (fun b=>zp F.h 8 b a) xs).map (fun bs=>if neg then !bs.any id else bs.any id)=some b→wpAny (model X.prog X.w) X.A (compareOp (if neg then .NotIn else .In) v u) (EP X pins σ Q) X.xe s:=fun xs hx e=>by
   cases q2:zH (fun b=>zp F.h 8 b a) xs with
   | none=>rw [q2] at e;cases e
   | some bs=>
    rw [q2] at e
    obtain ⟨l,us,rfl,sq,rs⟩:=zdp rel r2 hx
    cases ry
    obtain ⟨its,rv,pl,_⟩:=I.list (show SqL X.K H l us by rw [hK];exact sq)
    obtain ⟨ee,h1,h2⟩:=zn1 (A:=X.A.in1) I rel.heap rs rv r1 rx q2 (by show X.A.units+1+8 < cLine;omega)
    cases neg with
    | false=>exact SeqAt.in_listAt ee pl.isList h1 (by rw [h2];exact fin (bs:=bs) (by cases e;rfl))
    | true=>exact SeqAt.notIn_listAt ee pl.isList h1 (by rw [h2];exact fin (bs:=bs) (by cases e;rfl))
  split at e
  ·rename_i xs hx
   split at hx
   ·rename_i zs
    cases hx
    cases q2:zH (fun b=>zp F.h 8 b a) xs with
    | none=>rw [q2] at e;cases e
    | some bs=>
     rw [q2] at e
     cases (show Rep κ F.β F.O H (.tup xs) y from r2) with
     | @tup _ us l t1 t2 t3 rs=>
      cases ry
      obtain ⟨its,rv,pl,_⟩:=I.tuple (SqT.of (K:=X.K) t1)
      obtain ⟨ee,h1,h2⟩:=zn1 (A:=X.A.in1) I rel.heap rs rv r1 rx q2 (by show X.A.units+1+8 < cLine;omega)
      cases neg with
      | false=>exact SeqAt.in_tupleAt ee (show s.heap.IsTuple l its.toArray from pl) h1 (by rw [h2];exact fin (bs:=bs) (by cases e;rfl))
      | true=>exact SeqAt.notIn_tupleAt ee (show s.heap.IsTuple l its.toArray from pl) h1 (by rw [h2];exact fin (bs:=bs) (by cases e;rfl))
   ·exact lists xs hx e
  ·cases e
theorem znk (hK:X.K=κ.K) (hu:X.A.units+9 < cLine):OpR X (compareOp .In) (rInT κ false):=zqq false hK hu
theorem zqf:OpR X (compareOp .Is) (fun x y H Q=> ∃b,y= .bl b∧Q (.bl (decide (x= .bl b))) H):=by
 intro pins s σ H x y v u Q I rx ry h
 obtain ⟨b,rfl,q⟩:=h
 cases ry
 cases x with
 | bl c=>cases rx;exact wpAny_pure (zdv I q (by cases b <;> cases c <;> rfl))
 | non=>cases rx;exact wpAny_pure (zdv I q (by simp))
 | ref a=>cases rx;exact wpAny_pure (zdv I q (by simp))
 | ty a=>cases rx;exact wpAny_pure (zdv I q (by simp))
 | int a=>obtain ⟨t,rfl⟩:=rx;exact wpAny_pure (zdv I q (by simp))
 | str a=>obtain ⟨t,rfl⟩:=rx;exact wpAny_pure (zdv I q (by simp))
 | byt a=>obtain ⟨t,rfl⟩:=rx;exact wpAny_pure (zdv I q (by simp))
 | flt a=>obtain ⟨t,rfl⟩:=rx;exact wpAny_pure (zdv I q (by simp))
end
end L3
namespace L2
open PySem PySem.Spec PyProof.Rows
open PySem.Builtin.Str (occurrences)
section
variable {X:Cx} {e a b c o:Expr} {ta tb tc:TE} {pos:Pos}
def tFmt (ta:TE):TE:=fun σ H Q=>ta σ H fun x H1=>(∃i:Int,x= .int i∧i.natAbs.log2 < 1920∧Q (.str (toString i)) H1)∨∃y,x= .str y∧y.length≤100000∧Q (.str y) H1
theorem znn (ha:PE X a ta):PE X (.FormattedValue a (-1) none pos) (tFmt ta):=by
 intro pins s σ H Q I h
 refine wpAny_FormattedValue_plain (wpAny_mono (ha pins s σ H _ I h) (fun v s1 ⟨x,H1,I1,r1,q⟩=>?_) fun _ _ e=>e)
 rcases q with ⟨i,rfl,hi,q⟩ | ⟨y,rfl,hy,q⟩
 ·obtain ⟨t,rfl⟩:=r1
  exact wpAny_formatField_int hi ⟨.str _,H1,I1.tok _,⟨_,rfl⟩,q⟩
 ·obtain ⟨t,rfl⟩:=r1
  exact wpAny_formatField_str ⟨.str y,H1,I1,⟨_,rfl⟩,q⟩ ⟨.str y,H1,I1.tok _,⟨_,rfl⟩,q⟩ (Nat.le_trans hy (by decide))
def tF3 (ta tb tc:TE):TE:=fun σ H Q=>ta σ H fun x H1=> ∃i,x= .str i∧i.length≤10000∧tb σ H1 fun y H2=> ∃j,y= .str j∧j.length≤10000∧tc σ H2 fun z H3=> ∃k,z= .str k∧k.length≤10000∧Q (.str (i++j++k)) H3
theorem zth (ha:PE X a ta) (hb:PE X b tb) (hc:PE X c tc):PE X (.JoinedStr [a,b,c] pos) (tF3 ta tb tc):=by
 intro pins s σ H Q I h
 have sz:40000≤sizeLine:=by decide
 refine wpAny_JoinedStr ?_
 refine wpAny_mono (ha pins s σ H _ I h) (fun v s1 ⟨x,H1,I1,r1,i,ei,li,q1⟩=>?_) fun _ _ e=>e
 subst ei
 obtain ⟨t1,rfl⟩:=r1
 have e0:Str.empty++i=i:=Str.empty_append i
 refine ⟨i,t1,rfl,by rw [e0];omega,?_⟩
 rw [e0]
 refine wpAny_mono (hb pins s1 σ H1 _ I1 q1) (fun v s2 ⟨x,H2,I2,r2,j,ej,lj,q2⟩=>?_) fun _ _ e=>e
 subst ej
 obtain ⟨t2,rfl⟩:=r2
 refine ⟨j,t2,rfl,by rw [strLen_append];omega,?_⟩
 refine wpAny_mono (hc pins s2 σ H2 _ I2 q2) (fun v s3 ⟨x,H3,I3,r3,k,ek,lk,q3⟩=>?_) fun _ _ e=>e
 subst ek
 obtain ⟨t3,rfl⟩:=r3
 refine ⟨k,t3,rfl,by rw [strLen_append,strLen_append];omega,?_⟩
 exact ⟨by rw [strLen_append,strLen_append];omega,.str _,H3,I3.tok _,⟨_,rfl⟩,q3⟩
end
end L2
namespace L2
open PySem PySem.Spec PyProof.Rows
def isFr (a:Addr) (cls:Value) (dd:Option Addr):Heap→Prop:=fun h=> ∃o vs t0,h.get? a=some o∧o.cls=cls∧o.data= .fields vs∧o.dict=dd∧vs[0]? =some (.ref t0)∧vs[1]? =some .none
abbrev zO (a:Addr) (cls:Value) (dd:Option Addr):HO:= .ext (isFr a cls dd)
theorem zps {P:Program} {w:World} {H:Hp} {h:Heap} {a:Addr} {cls:Value} {dd:Option Addr} (x:isFr a cls dd h):ObjOk P w H h a (zO a cls dd):=
 ⟨x,let ⟨o,_,_,e,_⟩:=x;⟨o,e⟩,fun h1 h2 ⟨o,vs,t0,e,r⟩ k=>⟨o,vs,t0,k o e,r⟩⟩
structure CB (K:PySem.W.Frag) (B:Addr):Prop where
 sp:PySem.W.specialIn K (.ref B) "__getattribute__" =some (some (.builtin "type.__getattribute__"))
 rd:PySem.W.readsIn K B (.type "type")=true
 fc:PySem.W.findCls K (.ref B) (.type "type") "__init__" =some (.val (.builtin "ValueError.__init__"))
section
variable {X:Cx} {a B:Addr} {np apos cpos pos pos':Pos} {x:Str} {e1 e2 o value e:Expr} {ta tv:TE} {t:TA}
def znu (K:PySem.W.Frag) (t:TA):TE:=fun σ H Q=>t σ H fun vs H1=> ∃a C dd y,vs=[.ref a,y]∧H1 a=some (zO a (.ref C) dd)∧(PySem.W.clsIn K C).isSome=true∧PySem.W.subIn K (.ref C) (.type "ValueError")=some true∧Q .non (zi H1 a (zO a (.ref C) dd))
theorem zlz {pl:Sem Bool} (c:CB X.K B) (hg:Gl X x) (hm:X.mg x=some (.ref B)) (ha:PA X [e1,e2] t) (hdb:(x==("__debug__" :Str))=false:=by decide)
  (hst:starEach [e1,e2] X.env=(false,eval e1 X.env)::starEach [e2] X.env:=by rfl) (hpl:(backTo cpos (starEach [e2] X.env)).any (·.1)=false:=by rfl)
  (ht:eval (.Call (.Attribute (.Name x np) "__init__" apos) [e1,e2] [] cpos) X.env=(do
   let ov ←eval (.Name x np) X.env
   standAt apos.atName
   let (f,first) ←holding [ov] (getMethod ov "__init__" pl)
   callWith cpos f first (backTo cpos (starEach [e1,e2] X.env)) (backToKw cpos (keywordEach [] X.env))):=by rfl):
  PE X (.Call (.Attribute (.Name x np) "__init__" apos) [e1,e2] [] cpos) (znu X.K t):=by
 intro pins s σ H Q I h
 refine PySem.W.methodCall_KW (pl:=pl) (zc1 I hg hm ?_ hdb) ht
 refine PySem.W.method_cls I.kIn c.sp (PySem.W.cls_value I.kIn c.rd c.fc (by decide+kernel) ?_)
 have I1:Inv X pins σ H {s with toks:=s.toks+1}:=I.tok _
 have hA:=ha cpos pins _ σ H _ I1 h
 rw [hst] at hA ⊢
 refine Calls.callWith_builtin (by show (false || (backTo cpos (starEach [e2] X.env)).any (·.1))=false;rw [hpl] <;> rfl) (Calls.evalArgs_plain (zk hA fun us s2 z=>?_))
 obtain ⟨vs,H2,I2,r2,a,C,dd,y,rfl,ea,si,sv,q⟩:=z
 obtain ⟨u,v,rfl,rx,ry⟩:=zl7 r2
 cases rx
 obtain ⟨⟨o,vs,t0,ho,hc,hd,hdd,h0,h1⟩,_⟩:=(show ObjOk X.prog X.w H2 s2.heap a (zO a (.ref C) dd) from I2.hok a _ ea)
 obtain ⟨oc,od,odt,osl⟩:=o
 dsimp only at hc hd hdd
 subst hc hd hdd
 obtain ⟨hh,g,d,tk,os⟩:=s2
 refine wpAny_call (zob (K:=X.K) si sv I2.kIn ho h0 fun h' e1 kp=>?_)
 refine ⟨.non,_,I2.write (x:=a) (e:=a) (t':=tk) (by rw [ea];exact trivial) (.inl rfl) (fun b u hb q=>kp b u hb q) ⟨_,e1⟩ (zps ⟨_,_,hh.objs.size,e1,rfl,rfl,rfl,?_,?_⟩),rfl,q⟩
 ·rw [Array.getElem?_setIfInBounds_self_of_lt (Array.getElem?_eq_some_iff.mp h0).1]
 ·rw [Array.getElem?_setIfInBounds_ne (by decide)];exact h1
def znz (K:PySem.W.Frag) (ta tv:TE):TS:=fun D σ H=>tv σ H fun y H1=>ta σ H1 fun x H2=> ∃a C z,x= .ref a∧y= .str z∧H2 a=some (zO a (.ref C) none)∧ExN K C∧∀d,H2 d=none→D.nx σ (zi (zi H2 a (zO a (.ref C) (some d))) d (.xd [(("name" :Str),V.str z)]))
theorem zmw (ha:PE X o ta) (hv:PE X value tv) (hs:swapsWith value (some (.Attribute o "name" pos')) pos.line X.env=pure false:=by rfl):PS X (.Assign [.Attribute o "name" pos'] value pos) (znz X.K ta tv):=by
 intro pins s σ H D I h
 refine plainObj_wpAny_Assign_Attribute (zk (hv pins s σ H _ I h) fun u s1 ⟨y,H1,I1,ry,q⟩=>zk (ha pins s1 σ H1 _ I1 q) fun ov s2 ⟨x,H2,I2,rx,a,C,z,ex,ey,ea,c,q2⟩=>?_) hs
 subst ex;subst ey
 obtain rfl:ov=Value.ref a:=rx
 obtain ⟨t,rfl⟩:=(show RelV (.str z) u from ry)
 obtain ⟨⟨o,vs,t0,ho,hc,hd,hdd,h0,h1⟩,_⟩:=(show ObjOk X.prog X.w H2 s2.heap a (zO a (.ref C) none) from I2.hok a _ ea)
 obtain ⟨oc,od,odt,osl⟩:=o
 dsimp only at hc hd hdd
 subst hc hd hdd
 obtain ⟨hh,g,dr,tk,os⟩:=s2
 have nd:H2 hh.objs.size=none:=I2.hok.fresh (Nat.le_refl _)
 refine zpz c I2.kIn ho fun h' tk' e1 hn kp=>?_
 have I3:=I2.write (x:=a) (e:=a) (o:=zO a (.ref C) (some hh.objs.size)) (h':=h') (t':=tk') (by rw [ea];exact trivial) (.inl rfl) (fun b u hb q=>kp b u hb q) ⟨_,e1⟩ (zps ⟨_,_,t0,e1,rfl,rfl,rfl,h0,h1⟩)
 have ne:hh.objs.size≠a:=fun y=>by rw [←y,nd] at ea;cases ea
 have F:=Inv.fpOk I2 (b:=hh.objs.size) (Nat.le_refl _) nd
 have I4:=Inv.track (a:=hh.objs.size) (o:= .xd [(("name" :Str),V.str z)]) I3 (by rw [zv ne];exact nd) (by
  cases q:X.s₀.heap.get? hh.objs.size with
  | none=>rfl
  | some o=>exact absurd (Nat.lt_of_lt_of_le (Heap.lt_size q) I2.sz) (Nat.lt_irrefl _)) F.2.1 F.2.2.2.2.1 F.2.2.2.2.2 ⟨_,hn,fun f=>by
   by_cases hf:f="name"
   ·subst hf;exact ⟨t,rfl⟩
   ·have e2:([(("name" :Str),V.str z)]:List (Str×V)).lookup f=none:=by
     rw [List.lookup_cons,show (f==("name" :Str))=false from by simpa using hf];rfl
    rw [e2]
    show RelO none (if f="name" then _ else none)
    rw [if_neg hf];trivial⟩
 exact ⟨σ,_,I4,q2 _ nd⟩
def zqh (K:PySem.W.Frag) (ta:TE):TE:=fun σ H Q=>ta σ H fun x H1=> ∃a C d z,x= .ref a∧H1 a=some (yd a (.ref C) (some d))∧H1 d=some (.xd [(("name" :Str),V.str z)])∧ExN K C∧Q (.str z) H1
theorem zl3 (he:PE X e ta) (hb:attributeBase e "name" X.env (eval e X.env)=eval e X.env:=by rfl):PE X (.Attribute e "name" pos) (zqh X.K ta):=by
 intro pins s σ H Q I h
 refine zph hb (zk (he pins s σ H _ I h) fun u s1 ⟨x,H1,I1,rx,a,C,d,z,ex,ea,ed,c,q⟩=>?_)
 subst ex
 obtain rfl:u=Value.ref a:=rx
 obtain ⟨⟨o,vs,ho,hc,hd,hdd⟩,_⟩:=(show ObjOk X.prog X.w H1 s1.heap a (yd a (.ref C) (some d)) from I1.hok a _ ea)
 obtain ⟨mA,hn,hr⟩:=(show ObjOk X.prog X.w H1 s1.heap d (.xd [(("name" :Str),V.str z)]) from I1.hok d _ ed)
 obtain ⟨oc,od,odt,osl⟩:=o
 dsimp only at hc hd hdd
 subst hc hd hdd
 have hv:=hr "name"
 rw [show ([(("name" :Str),V.str z)]:List (Str×V)).lookup ("name" :Str)=some (V.str z) from by rw [List.lookup_cons,show (("name" :Str)==("name" :Str))=true from by simp]] at hv
 obtain ⟨hh,g,dr,tk,os⟩:=s1
 cases hm:mA "name" with
 | none=>rw [hm] at hv;exact hv.elim
 | some u=>
  rw [hm] at hv
  obtain ⟨t,rfl⟩:=(show RelV (.str z) u from hv)
  exact zo4 c I1.kIn ho hn.ns hm rfl ⟨.str z,H1,I1.tok _,⟨t,rfl⟩,q⟩
end
def zku (K:PySem.W.Frag) (C:Addr):Bool:=match K.lookup C with
 | some ⟨.type "type",_,.cls cd,sl⟩=>(match cd.mro,sl.toList with
  | .ref C'::bm,[_,_,_,_,some (.builtin n),_]=>C'==C && n=="ValueError.__new__" && !cd.hasDel && PySem.W.tailIn K qw bm
  | _,_=>false)
 | _=>false
structure XI (K:PySem.W.Frag) (C f:Addr):Prop extends ExN K C where
 ex:zku K C=true
 it':PySem.W.findIn K (.ref C) "__init__" =some (some (.ref f))
 fn:PySem.W.typeIn K (.ref f)=some (.type "function")
 sv:PySem.W.subIn K (.ref C) (.type "ValueError")=some true
 kp:PySem.W.keepIn K (.ref C)=true
theorem XI.own {K:PySem.W.Frag} {C f:Addr} {h:Heap} (c:XI K C f) (X:K.In h): ∃nm q N bs bm hdct sn sub ab col dd k0 k1 k2 k3 k5,h.get? C=some (excClassObj nm q C N bs bm hdct sn sub ab col dd k0 k1 k2 k3 k5 "ValueError.__new__")∧OwnTail h qw bm:=by
 have q:=c.ex
 unfold zku at q
 split at q
 case h_2=>cases q
 case h_1 dd cd sl ho=>
  split at q
  case h_2=>cases q
  case h_1 C' bm y0 y1 y2 y3 n y5 hm hs=>
   simp only [Bool.and_eq_true,beq_iff_eq,Bool.not_eq_true'] at q
   obtain ⟨⟨⟨e1,e2⟩,hdel⟩,ht⟩:=q
   subst e1
   subst e2
   cases cd with
   | mk nm bs mro ns qn hd sn sub ab col del=>
   simp only at hm hdel
   cases hm
   cases hdel
   have e:sl= #[y0,y1,y2,y3,some (.builtin "ValueError.__new__"),y5]:=Array.ext' hs
   cases e
   exact ⟨nm,qn,ns,bs,bm,hd,sn,sub,ab,col,dd,y0,y1,y2,y3,y5,X _ _ ho,PySem.W.tail_of_in X ht⟩
section
variable {prog:Program} {w:World} {A:Around} {E:Value→Shared→Prop} {h:Heap} {g:Array GenState} {d:Drawn} {t:Nat} {os:OsState} {K:PySem.W.Frag} {f:Addr}
variable {nm q:Str} {C N:Addr} {bs bm:List Value} {hdct:Bool} {sn:List Str} {sub:List Value} {ab:Bool} {col:Option Bool} {dd:Option Addr} {k0 k1 k2 k3 k5:Option Value}
theorem zpf (c:XI K C f) (X:K.In h) (T:OwnTail h qw bm) {rest:List Value} {Q:Fin→Shared→Prop}
  (hC:h.get? C=some (excClassObj nm q C N bs bm hdct sn sub ab col dd k0 k1 k2 k3 k5 "ValueError.__new__"))
  (hq: ∀h' e,h.objs.size≤e→Heap.MadeExcOf h h' e (.ref C) rest→wpAny (model prog w) A (call (.ref f) (.ref e::rest)) (fun r s'=>r= .none∧Q (.done (.ret (.ref e))) s') E ⟨h',g,d,t,os⟩) (hrest:rest.length≤sizeLine):
  wpAny (model prog w) A (Builtin.«type.__call__» ⟨.ref C::rest,[]⟩) Q E ⟨h,g,d,t,os⟩:=by
 have F:=PySem.F.excBase_ValueError
 repeat (first | with_reducible refine wpAny_loadPart_at hC ?_ | with_reducible refine wpAny_madeBy_exc hC ?_ | wp_step)
 refine codeAny_call_builtin_code (Code.quiet_builtin _ F.quiet) (wpAny_check_new_subT F T hC ?_)
 refine codeAny_exc_new_subT F T hC ?_ hrest
 show wpAny _ _ _ _ _ _
 generalize hH:((h.push {cls:= .type "tuple",data:= .seq rest.toArray}).push {cls:= .ref C,data:= .fields #[.ref h.objs.size,.none,.none,.none,.bool false,.none]})=h1
 have kp: ∀b o,h.get? b=some o→h1.get? b=some o:=fun b o e=>by rw [←hH];exact Heap.get?_push_of_some _ (Heap.get?_push_of_some _ e)
 have hC1:=kp _ _ hC
 have hget:h1.get? (h.objs.size+1)=some {cls:= .ref C,data:= .fields #[.ref h.objs.size,.none,.none,.none,.bool false,.none]}:=by rw [←hH];heap_get
 have hcC:(Value.ref C::bm).contains (.ref C)=true:=by simp
 have X1:K.In h1:=X.keeps kp
 unfold isInstance
 repeat (first | with_reducible refine wpAny_loadPart_at hget ?_ | (with_reducible refine wpAny_isSubtype_exc hC1 ?_;rw [hcC]) | wp_step)
 refine (PySem.W.looks_findIn X1 c.it').at ?_
 refine wpAny_holding (wpAny_bind ((PySem.W.bind_fn X1 _ c.fn).at ?_))
 refine wpAny_bind (zk (hq h1 (h.objs.size+1) (Nat.le_succ _) ⟨kp,Heap.get?_none_of_le (Nat.le_succ _),h.objs.size,hget,Heap.get?_none_of_le (Nat.le_refl _),by rw [←hH];exact Heap.get?_push_of_some _ (Heap.get?_push_at rfl rfl)⟩) fun r s' z=>?_)
 obtain ⟨rfl,z⟩:=z
 wp_walk
 exact z
theorem zpd (c:XI K C f) (X:K.In h) (T:OwnTail h qw bm) {rest:List Value} {Q:Value→Shared→Prop}
  (hC:h.get? C=some (excClassObj nm q C N bs bm hdct sn sub ab col dd k0 k1 k2 k3 k5 "ValueError.__new__"))
  (hq: ∀h' e,h.objs.size≤e→Heap.MadeExcOf h h' e (.ref C) rest→wpAny (model prog w) (A.under (.builtin "type.__call__" ⟨.ref C::rest,[]⟩)) (call (.ref f) (.ref e::rest)) (fun r s'=>r= .none∧Q (.ref e) s') E ⟨h',g,d,t,os⟩) (hrest:rest.length≤sizeLine):
  wpAny (model prog w) A (call (.ref C) rest) Q E ⟨h,g,d,t,os⟩:=by
 have f1:=tc_lookup
 have f2:=tc_bind (.ref C)
 have hT:(⟨h,g,d,t,os⟩:Shared).TypeIs (.ref C) "type" :=⟨_,hC,rfl⟩
 refine wpAny_call (codeAny_of_tree ?_)
 show wpAny _ _ (callAny (.ref C) _) _ _ _
 repeat (any_goals (first | assumption | with_reducible refine wpAny_loadPart_at hC ?_ | wp_step))
 exact ⟨rfl,codeAny_call_builtin_at (Code.quiet_builtin _ (by decide+kernel)) entry_typeCall (wpAny_check_type_call_sub hC (zpf c X T hC (fun h' e ge hm=>hq h' e ge hm) hrest))⟩
end
end L2
namespace L4
open PySem PySem.W PyProof.Rows L2
def zfp (tb:String→Option Builtin) (p:Program) (w:World) (m:Nat) (ann:Option Value):Nat→SharedT→Thread→Option SharedT
 | 0,_,_=>none
 | n+1,s,t=>match through t with
  | true=>some s
  | false=>match stepOk m ann t with
   | false=>none
   | true=>match stepT (denote tb) p w s t with
    | some (s',t')=>zfp tb p w m ann n s' t'
    | none=>none
theorem zfh {tb:String→Option Builtin} {p:Program} {w:World} {m:Nat} {ann:Option Value}: ∀{n:Nat} {s s':SharedT} {t:Thread},zfp tb p w m ann n s t=some s'→topRun tb p w m ann n s.abs t=some s'.abs
 | 0,_,_,_,h=>by cases h
 | n+1,s,s',t,h=>by
  unfold zfp at h
  unfold topRun
  cases he:through t with
  | true=>rw [he] at h;cases h;rfl
  | false=>
   rw [he] at h
   cases hk:stepOk m ann t with
   | false=>rw [hk] at h;cases h
   | true=>
    rw [hk] at h
    cases hs:stepT (denote tb) p w s t with
    | none=>rw [hs] at h;cases h
    | some r=>
     obtain ⟨s2,t2⟩:=r
     rw [hs] at h
     rw [stepT_spec hs]
     exact zfh h
def zr9:List Obj→Nat→BT→BT
 | [],_,t=>t
 | o::r,n,t=>zr9 r (n+1) (t.ins n o)
def boot (P:Params) (os:OsState):SharedT:=⟨zr9 (boot_heap P).objs.toList 0 .nil,11,(boot_heap P).life,Array.mk [],boot_drawn,boot_toks,os⟩
theorem zl2 (P:Params) (os:OsState):(boot P os).abs=⟨boot_heap P,Array.mk [],boot_drawn,boot_toks,os⟩:=by kernel_rfl
theorem zjx (P:Params):((boot_heap P).isNs mainGlobals,(boot_heap P).objs.size,(boot_heap P).nsMap mainGlobals "__annotations__")=(true,11,some (.ref 6)):=by kernel_rfl
section
variable (p q:Program) (loose:List Str) {β:Type} (obs:Heap→β)
def looks (P:Params) (s:Shared):=
 ((staticsOk (importedModules p.main.body) (boot_heap P) s.heap && namesBound p s.heap && gensDone s && laidKept (boot_heap P) s.heap),openSeen q loose (importedModules p.main.body) (fun _=>true) true s,obs s.heap)
def znq (N:Nat) (w:World) (os:OsState):=(zfp treeTable p w 11 (some (.ref 6)) N (boot w.params os) (topStub p)).map fun s=>looks p q loose obs w.params s.abs
end
theorem left_one {p q:Program} {loose:List Str} {β:Type} {obs:Heap→β} {good:β} {N:Nat} (e:opening p=plainProg p.main.scope.names) (hN:Nat.ble 600 N=true) (f: ∀s,fenceModules? p s=some s)
  (h: ∀w os,znq p q loose obs N w os=some (true,openGood q loose,good)):LeftO p q loose (fun _=>true) (fun s=>obs s.heap) (fun _=>good) N:=fun w=>by
 obtain ⟨⟨h0,gs,d,k,os⟩,e1,e2⟩:=Option.map_eq_some_iff.mp (boot_open e hN f w)
 obtain ⟨rfl,rfl,rfl,rfl⟩:h0=boot_heap w.params∧gs=Array.mk []∧d=boot_drawn∧k=boot_toks:=by simpa using e2
 obtain ⟨s1,r1,r2⟩:=Option.map_eq_some_iff.mp (h w os)
 have r3:=zfh r1
 rw [zl2] at r3
 obtain ⟨z1,z2,z3⟩:_∧_∧_:=by simpa only [Prod.mk.injEq] using zjx w.params
 obtain ⟨l1,l2,l3⟩:_∧_∧_:=by simpa only [looks,Prod.mk.injEq] using r2
 have t:topFrom treeTable p w N ⟨boot_heap w.params,Array.mk [],boot_drawn,boot_toks,os⟩=some s1.abs:=by
  unfold topFrom
  dsimp only
  rw [z1,z2,z3,r3]
  show (match staticsOk (importedModules p.main.body) (boot_heap w.params) s1.abs.heap && namesBound p s1.abs.heap && gensDone s1.abs && laidKept (boot_heap w.params) s1.abs.heap with | true=>_ | false=>_)=_
  rw [l1]
 unfold openEnds
 rw [e1]
 show (topFrom treeTable p w N _).map _=_
 rw [t]
 exact congrArg some (Prod.ext l2 l3)
def frag (as:List Addr) (h:Heap):Frag:=as.filterMap fun a=>(h.get? a).map fun o=>(a,o)
theorem zn9 {as:List Addr} {h:Heap}:(frag as h).In h:=by
 intro a o e
 induction as with
 | nil=>cases e
 | cons b r ih=>
  unfold frag at e
  rw [List.filterMap_cons] at e
  cases hb:h.get? b with
  | none=>rw [hb] at e;exact ih e
  | some ob=>
   rw [hb] at e
   simp only [Option.map_some,List.lookup] at e
   split at e
   ·rename_i q;cases e;rw [beq_iff_eq.mp q];exact hb
   ·exact ih e
def zn3:Value→Bool
 | .none=>true
 | _=>false
theorem zjf {v:Value} (h:zn3 v=true):v= .none:=by cases v <;> first | rfl | cases h
def zhb (K:Frag) (qual:Str):Option (Option Value)→Option (Str×Str×Arguments×FuncBody×Scope×Bool)
 | some (some (.ref f))=>match K.lookup f with
  | some ⟨_,_,.func fd,_⟩=>some (fd.name,fd.qualname,fd.params,fd.body,fd.scope,(Nat.beq fd.globals mainGlobals && fd.closure.isEmpty && zn3 fd.defaults && Nat.beq fd.builtins builtinsNs && codeIn K fd.code qual && isFn K (.ref f)))
  | _=>none
 | _=>none
def zgk (x qual:Str) (st:Stmt):Option (Str×Str×Arguments×FuncBody×Scope×Bool):=some (x,qual,zem st,.stmts (zcn st),zx st,true)
theorem zn8 {K:Frag} {x qual:Str} {st:Stmt} {v:Option (Option Value)} (e:zhb K qual v=zgk x qual st):
  ∃f fd,v=some (some (.ref f))∧Fun K x qual st f fd∧isFn K (.ref f)=true:=by
 unfold zhb at e
 split at e
 ·rename_i f
  split at e
  ·rename_i oc od fd sl hl
   unfold zgk at e
   simp only [Option.some.injEq,Prod.mk.injEq,Bool.and_eq_true] at e
   obtain ⟨e1,e2,e3,e4,e5,⟨⟨⟨⟨h1,h2⟩,h3⟩,h4⟩,h5⟩,h6⟩:=e
   refine ⟨f,fd,rfl,⟨⟨oc,od,fd.kwdefaults,fd.doc,fd.pyModule,fd.annotations,fd.code,fd.closureTuple,sl,?_,hl,h5⟩,?_⟩,h6⟩
   ·obtain ⟨a1,a2,a3,a4,a5,a6,a7,a8,a9,a10,a11,a12,a13,a14,a15⟩:=fd
    simp only at e1 e2 e3 e4 e5 h1 h2 h3 h4
    have h1:=Nat.eq_of_beq_eq_true h1
    have h2:=List.isEmpty_iff.mp h2
    have h3:=zjf h3
    have h4:=Nat.eq_of_beq_eq_true h4
    subst e1 e2 e3 e4 e5 h1 h2 h3 h4
    rfl
   ·unfold keepIn
    simp only [hl]
  ·cases e
 ·cases e
inductive KV where
 | int (i:Int)
 | str (s:Str)
def zha:Option (Option Value)→Option KV
 | some (some (.int i _))=>some (.int i)
 | some (some (.str s _))=>some (.str s)
 | _=>none
theorem zrj {v:Option (Option Value)} {i:Int} (e:zha v=some (.int i)): ∃t,v=some (some (.int i t)):=by
 unfold zha at e
 split at e
 ·simp only [Option.some.injEq,KV.int.injEq] at e;subst e;exact ⟨_,rfl⟩
 ·simp at e
 ·cases e
theorem zrr {v:Option (Option Value)} {i:Str} (e:zha v=some (.str i)): ∃t,v=some (some (.str i t)):=by
 unfold zha at e
 split at e
 ·simp at e
 ·simp only [Option.some.injEq,KV.str.injEq] at e;subst e;exact ⟨_,rfl⟩
 ·cases e
def zer:Option (Option Value)→Bool
 | some none=>true
 | _=>false
theorem zmx {v:Option (Option Value)} (e:zer v=true):v=some none:=by
 unfold zer at e
 split at e
 ·rfl
 ·cases e
def zi6 (p:Program) (i:Nat):Stmt:=p.main.body.getD i (.Pass ⟨0,0,0,0⟩)
structure Ask where
 law:Nat
 at_:List Addr
 defs:List (Str×Nat)
 cls:List (Str×Nat×List (Str×Str×Nat)×List Str)
 bare:List Str
 con:List (Str×KV)
 exc:List (Str×Bool)
 tab:List (Str×Str×Bool)
 exi:List (Str×Str×Nat×Str×Nat)
def zmv (K:Frag) (C:Addr):Bool:=
 plainGet K C Str.empty && hasDictIn K C && plainOver K C && (findIn K (.ref C) "__setattr__" ==some (some (.builtin "object.__setattr__"))) && makesIn K C && keepIn K (.ref C)
def zo2 (K:Frag) (c:Str×Nat×List (Str×Str×Nat)×List Str):Option Value→Option (List (Option (Str×Str×Arguments×FuncBody×Scope×Bool))×Bool×List Bool)
 | some (.ref C)=>some (c.2.2.1.map (fun m=>zhb K m.2.1 (findIn K (.ref C) m.1)),zmv K C,c.2.2.2.map fun a=>zer (findIn K (.ref C) a))
 | _=>none
def zht (K:Frag) (C:Addr):Bool:=
 excIn K C qw "ValueError.__new__" && (clsIn K C).isSome && (findIn K (.ref C) "__getattribute__" ==some (some (.builtin "BaseException.__getattribute__"))) && zer (findIn K (.ref C) "__getattr__") && (findIn K (.ref C) "__class__" ==some (some (.builtin "object.__class__"))) && (subIn K (.ref C) (.type "BaseException")==some true) && (subIn K (.ref C) (.type "object")==some true) && (subIn K (.ref C) (.type "ValueError")==some true)
def znd (K:Frag) (b:Bool):Option Value→Bool
 | some (.ref C)=>match b with
  | true=>zht K C
  | false=>true
 | _=>false
def zn4:Option CFound→Bool
 | some (.val (.builtin n))=>n=="ValueError.__init__"
 | _=>false
def zle (K:Frag) (C B:Addr):Bool:=
 zku K C && (clsIn K C).isSome && (findIn K (.ref C) "__getattribute__" ==some (some (.builtin "BaseException.__getattribute__"))) && zer (findIn K (.ref C) "__getattr__") && (findIn K (.ref C) "__class__" ==some (some (.builtin "object.__class__"))) && (subIn K (.ref C) (.type "BaseException")==some true) && (subIn K (.ref C) (.type "object")==some true) && zer (findIn K (.ref C) "name") && (clsIn K C).any (fun cd=>cd.hasDict && zep cd.mro) && (findIn K (.ref C) "__setattr__" ==some (some (.builtin "object.__setattr__"))) && (subIn K (.ref C) (.type "ValueError")==some true) && keepIn K (.ref C) &&
 (specialIn K (.ref B) "__getattribute__" ==some (some (.builtin "type.__getattribute__"))) && readsIn K B (.type "type") && zn4 (findCls K (.ref B) (.type "type") "__init__")
def zk2 (K:Frag) (q:Str):Option Value→Option Value→Option (Option (Str×Str×Arguments×FuncBody×Scope×Bool)×Bool)
 | some (.ref C),some (.ref B)=>some (zhb K q (findIn K (.ref C) "__init__"),zle K C B)
 | _,_=>none
def zp2 (K:Frag) (v:Bool):Option Value→Option Value→Bool
 | some (.ref C),some (.ref B)=>exmOne K (.ref C) (.ref B)==some v && kitOne K (.ref C) (.ref B)==some v
 | _,_=>false
def seenK (A:Ask) (K:Frag):=
 (A.defs.map (fun d=>zhb K d.1 (nsIn K mainGlobals d.1)),A.cls.map (fun c=>zo2 K c (nsIn K mainGlobals c.1).join),A.bare.map (fun b=>zer (nsIn K mainGlobals b)),A.con.map (fun c=>zha (nsIn K mainGlobals c.1)),A.exc.map (fun c=>znd K c.2 (nsIn K mainGlobals c.1).join),A.tab.map (fun r=>zp2 K r.2.2 (nsIn K mainGlobals r.1).join (nsIn K mainGlobals r.2.1).join),A.exi.map fun r=>zk2 K r.2.2.2.1 (nsIn K mainGlobals r.1).join (nsIn K mainGlobals r.2.1).join)
def seen (A:Ask) (h:Heap):=seenK A (frag A.at_ h)
def good (p:Program) (A:Ask):=
 (A.defs.map (fun d=>zgk d.1 d.1 (zi6 p d.2)),
  A.cls.map (fun c=>some (c.2.2.1.map (fun m=>zgk m.1 m.2.1 (zfq (zi6 p c.2.1) m.2.2)),true,c.2.2.2.map fun _=>true)),
  A.bare.map (fun _=>true),A.con.map (fun c=>some c.2),A.exc.map (fun _=>true),A.tab.map (fun _=>true),A.exi.map fun r=>some (zgk "__init__" r.2.2.2.1 (zfq (zi6 p r.2.2.1) r.2.2.2.2),true))
def lawView (A:Ask) (p:Program):Program:={p with main:={p.main with body:=[zi6 p A.law]}}
def looseOf (p:Program):List Str:=(p.main.scope.names.map (·.1)).filter fun x=> !(x=="law")
def claim (A:Ask) (N:Nat) (p:Program) (w:World) (os:OsState):=znq p (lawView A p) (looseOf p) (seen A) N w os
def goal (A:Ask) (p:Program):=some (true,openGood (lawView A p) (looseOf p),good p A)
section
variable {p:Program} {A:Ask} {K:Frag}
theorem zet {α β:Type} {f g:α→β} {l:List α} {i:Nat} {a:α} (e:l.map f=l.map g) (h:l[i]? =some a):f a=g a:=by
 have:=congrArg (fun z=>z[i]?) e
 simp only [List.getElem?_map,h,Option.map_some,Option.some.injEq] at this
 exact this
theorem def_at (S:seenK A K=good p A) (i:Nat) {d:Str×Nat} (h:A.defs[i]? =some d): ∃f fd,nsIn K mainGlobals d.1=some (some (.ref f))∧Fun K d.1 d.1 (zi6 p d.2) f fd:=by
 obtain ⟨f,fd,e,F,_⟩:=zn8 (zet (congrArg (fun z=>z.1) S) h)
 exact ⟨f,fd,e,F⟩
theorem bare_at (S:seenK A K=good p A) (i:Nat) {b:Str} (h:A.bare[i]? =some b):nsIn K mainGlobals b=some none:=zmx (zet (congrArg (fun z=>z.2.2.1) S) h)
theorem int_at (S:seenK A K=good p A) (i:Nat) {x:Str} {n:Int} (h:A.con[i]? =some (x,.int n)): ∃t,nsIn K mainGlobals x=some (some (.int n t)):=zrj (zet (congrArg (fun z=>z.2.2.2.1) S) h)
theorem str_at (S:seenK A K=good p A) (i:Nat) {x:Str} {n:Str} (h:A.con[i]? =some (x,.str n)): ∃t,nsIn K mainGlobals x=some (some (.str n t)):=zrr (zet (congrArg (fun z=>z.2.2.2.1) S) h)
theorem zf0 {v:Option (Option Value)} {x:Value} (h:v.join=some x):v=some (some x):=by
 cases v with
 | none=>cases h
 | some v=>cases h;rfl
theorem exc_at (S:seenK A K=good p A) (i:Nat) {x:Str} {b:Bool} (h:A.exc[i]? =some (x,b)): ∃C,nsIn K mainGlobals x=some (some (.ref C))∧(b=true→excIn K C qw "ValueError.__new__" =true∧ExK K C):=by
 have e:=zet (congrArg (fun z=>z.2.2.2.2.1) S) h
 unfold znd at e
 split at e
 ·rename_i C hC
  refine ⟨C,zf0 hC,fun hb=>?_⟩
  have hb:b=true:=hb
  subst hb
  have e:zht K C=true:=e
  unfold zht at e
  simp only [Bool.and_eq_true] at e
  obtain ⟨⟨⟨⟨⟨⟨⟨h1,h2⟩,h3⟩,h4⟩,h5⟩,h6⟩,h7⟩,h8⟩:=e
  exact ⟨h1,h2,beq_iff_eq.mp h3,zmx h4,beq_iff_eq.mp h5,beq_iff_eq.mp h6,beq_iff_eq.mp h7,beq_iff_eq.mp h8⟩
 ·cases e
theorem tab_at (S:seenK A K=good p A) (i:Nat) {x y:Str} {v:Bool} {C B:Addr} (h:A.tab[i]? =some (x,y,v)) (hC:nsIn K mainGlobals x=some (some (.ref C))) (hB:nsIn K mainGlobals y=some (some (.ref B))):exmOne K (.ref C) (.ref B)=some v∧kitOne K (.ref C) (.ref B)=some v:=by
 have e:=zet (congrArg (fun z=>z.2.2.2.2.2.1) S) h
 dsimp only at e
 rw [hC,hB] at e
 have e:(exmOne K (.ref C) (.ref B)==some v && kitOne K (.ref C) (.ref B)==some v)=true:=e
 rw [Bool.and_eq_true] at e
 exact ⟨beq_iff_eq.mp e.1,beq_iff_eq.mp e.2⟩
theorem xi_at (S:seenK A K=good p A) (i:Nat) {r:Str×Str×Nat×Str×Nat} (h:A.exi[i]? =some r): ∃C B f fd,nsIn K mainGlobals r.1=some (some (.ref C))∧nsIn K mainGlobals r.2.1=some (some (.ref B))∧XI K C f∧CB K B∧Fun K "__init__" r.2.2.2.1 (zfq (zi6 p r.2.2.1) r.2.2.2.2) f fd:=by
 have e:=zet (congrArg (fun z=>z.2.2.2.2.2.2) S) h
 unfold zk2 at e
 split at e
 ·rename_i C B hC hB
  simp only [Option.some.injEq,Prod.mk.injEq] at e
  obtain ⟨e1,e2⟩:=e
  obtain ⟨f,fd,ef,F,isf⟩:=zn8 e1
  unfold zle at e2
  simp only [Bool.and_eq_true] at e2
  obtain ⟨⟨⟨⟨⟨⟨⟨⟨⟨⟨⟨⟨⟨⟨h1,h2⟩,h3⟩,h4⟩,h5⟩,h6⟩,h7⟩,h8⟩,h9⟩,h10⟩,h11⟩,h12⟩,h13⟩,h14⟩,h15⟩:=e2
  refine ⟨C,B,f,fd,zf0 hC,zf0 hB,⟨⟨⟨h2,beq_iff_eq.mp h3,zmx h4,beq_iff_eq.mp h5,beq_iff_eq.mp h6,beq_iff_eq.mp h7,beq_iff_eq.mp h11⟩,zmx h8,h9,beq_iff_eq.mp h10⟩,h1,ef,beq_iff_eq.mp isf,beq_iff_eq.mp h11,h12⟩,⟨beq_iff_eq.mp h13,h14,?_⟩,F⟩
  unfold zn4 at h15
  split at h15
  ·rename_i n hn
   rw [hn,beq_iff_eq.mp h15]
  ·cases h15
 ·cases e
end
section
variable {K:Frag} {x qual:Str} {st:Stmt} {f:Addr} {fd:FuncData} {p1 p2 p3 p4 p5 p6 p7 p8:Str}
abbrev Bd (x qual:Str) (st:Stmt) (us:List Value) (r:List (Str×Value)):Prop:=∀(kV doc pm:Value) (an:Option Addr) (cdv ct:Value),bindArgs (fnOf x qual (zem st) (zcn st) (zx st) .none kV doc pm an cdv ct) ⟨us,[]⟩=pure r
theorem zco {us:List Value} {n:Nat} (h:us.length=n+1): ∃a r,us=a::r∧r.length=n:=by
 cases us with
 | nil=>cases h
 | cons a r=>exact ⟨a,r,rfl,by simpa using h⟩
theorem b1 (F:Fun K x qual st f fd) (h: ∀a,Bd x qual st [a] [(p1,a)]):Binds K fd [p1] []:=F.binds fun _ _ _ _ _ _ us h0=>by
 obtain ⟨a,u1,rfl,h1⟩:=zco h0
 obtain rfl:u1=[]:=List.eq_nil_of_length_eq_zero h1
 exact h _ _ _ _ _ _ _
theorem b2 (F:Fun K x qual st f fd) (h: ∀a b,Bd x qual st [a,b] [(p1,a),(p2,b)]):Binds K fd [p1,p2] []:=F.binds fun _ _ _ _ _ _ us h0=>by
 obtain ⟨a,u1,rfl,h1⟩:=zco h0
 obtain ⟨b,u2,rfl,h2⟩:=zco h1
 obtain rfl:u2=[]:=List.eq_nil_of_length_eq_zero h2
 exact h _ _ _ _ _ _ _ _
theorem b3 (F:Fun K x qual st f fd) (h: ∀a b c,Bd x qual st [a,b,c] [(p1,a),(p2,b),(p3,c)]):Binds K fd [p1,p2,p3] []:=F.binds fun _ _ _ _ _ _ us h0=>by
 obtain ⟨a,u1,rfl,h1⟩:=zco h0
 obtain ⟨b,u2,rfl,h2⟩:=zco h1
 obtain ⟨c,u3,rfl,h3⟩:=zco h2
 obtain rfl:u3=[]:=List.eq_nil_of_length_eq_zero h3
 exact h _ _ _ _ _ _ _ _ _
theorem b4 (F:Fun K x qual st f fd) (h: ∀a b c d,Bd x qual st [a,b,c,d] [(p1,a),(p2,b),(p3,c),(p4,d)]):Binds K fd [p1,p2,p3,p4] []:=F.binds fun _ _ _ _ _ _ us h0=>by
 obtain ⟨a,u1,rfl,h1⟩:=zco h0
 obtain ⟨b,u2,rfl,h2⟩:=zco h1
 obtain ⟨c,u3,rfl,h3⟩:=zco h2
 obtain ⟨d,u4,rfl,h4⟩:=zco h3
 obtain rfl:u4=[]:=List.eq_nil_of_length_eq_zero h4
 exact h _ _ _ _ _ _ _ _ _ _
theorem binds_law (F:Fun K x qual st f fd) (h: ∀a,Bd x qual st [a] [(p1,a)]) (s:Shared) (u:Value):BindsTo s fd ⟨[u],[]⟩ [(p1,u)]:=by
 obtain ⟨oc,od,kV,doc,pm,an,cdv,ct,osl,rfl,lk,hcd⟩:=F.ex
 exact .of_eq (h u _ _ _ _ _ _)
end
theorem walk_one {l:OpenLaw} {n k:Nat} {q:Program} {loose:List Str} {XP:(Str→Option Value)→Heap→Prop} {A:Ask} {d:DefRec} {CX:World→yZ} {sp:Frag→Sp} {x:Str}
  (hn:l.most=some n) (hn2:n≤sizeLine) (hdf:d.params.defaults=[]) (hr:Room k callerA)
  (F: ∀(w:World) (mg:Str→Option Value) (fa:Addr) (h:Heap) (K:Frag),K.In h→h.Ns mainGlobals mg→seenK A K=good l.prog A→mg d.name=some (.ref fa)→
   ∃fd:FuncData,(∀(s:Shared) (u:Value),BindsTo s fd ⟨[u],[]⟩ [(x,u)])∧∀base:Heap,K.In base→base.Ns mainGlobals mg→FnOk l.prog w K mg base (CX w) k fa fd [x] (sp K))
  (hsp: ∀(K:Frag) (H:Hp) (a:Addr) (ns:List Int),ns.length≤n→Only H→SqL K H a (ns.map V.int)→sp K [.ref a] H (fun v _=>v= .bl true) fun _ _ _=>False)
  (hCX: ∀(w:World) (H:Hp) (s:Shared) (e:Value) (s':Shared),CX w [] H s (fun _ _ _=>False) e s'→False):
  WalkO q loose XP (fun _ h=> ∃K:Frag,K.In h∧seenK A K=good l.prog A) l.row.toRowW d [] (fun f vs=>PySem.call f vs):=by
 refine Att.attach_call hn hdf fun w s0 s1 mg mb fa o pm cd doc a vs ns G Y ho hd hcd hmg hobj hints hlen hg=>?_
 obtain ⟨K,KX,S⟩:=Y
 obtain ⟨fd,hb,hF⟩:=F w mg fa _ K KX G.T.g S hmg
 exact zmr KX G.T.g G.T.b G.T.builtins G.T.nolimit hg hobj hints (Nat.le_trans hlen hn2) hr hF hb (fun H hO hS=>hsp K H a ns hlen hO hS) fun H e s'=>hCX w H s1 e s'
theorem seen_ok {A:Ask} {p:Program} (w:World) (s:Shared) (e:seen A s.heap=good p A): ∃K:Frag,K.In s.heap∧seenK A K=good p A:=⟨_,zn9,e⟩
theorem seen_keeps {A:Ask} {p:Program} (w:World) (h h':Heap) (y: ∃K:Frag,K.In h∧seenK A K=good p A) (k: ∀b o,h.get? b=some o→h'.get? b=some o): ∃K:Frag,K.In h'∧seenK A K=good p A:=
 let ⟨K,a,b⟩:=y
 ⟨K,a.keeps k,b⟩
end L4
namespace L3
open PySem PySem.Spec PyProof.Rows L2
section
variable {X:Cx} {κ:Kx} {E:XK} {a b e o tg:Expr} {pos np apos:Pos} {i:Nat}
theorem zd (i:Nat) {x:Str} {pos:Pos} (hN:X.N[i]? =some x:=by rfl) (hv:Vis X.env.scope x:=by first | exact Or.inl rfl | exact Or.inr (Or.inl rfl) | exact Or.inr (Or.inr rfl)) (hd:(x==("__debug__" :Str))=false:=by decide)
 (hcd:(x==("__classdict__" :Str))=false:=by decide):PE X (.Name x pos) (zh κ E (pV i)):=rp_v (pv i hN hv hd hcd)
theorem ze {i j pos}:PE X (.Constant (.int i) j pos) (zh κ E (pE (eC (.int i)))):=za zqb
theorem w_x {da db:P3} (ha:PE X a (zh κ E da)) (hb:PE X b (zh κ E db)) (hK:X.K=κ.K:=by rfl) (hm:zfn b:=by exact fun _ _=>rfl):PE X (.Subscript a b pos) (zg κ E (eOp zE da db)):=r_ix zn6 (znp hK) hm ha hb
theorem w_y {da db:P3} (ha:PE X a (zh κ E da)) (hb:PE X b (zh κ E db)) (hK:X.K=κ.K:=by rfl) (hm:zfn b:=by exact fun _ _=>rfl):PE X (.Subscript a b pos) (zh κ E (pE (eOp zE da db))):=za (r_ix zn6 (znp hK) hm ha hb)
theorem zU (i:Nat) {x:Str} {pos':Pos} {d:E3} (hN:X.N.Nodup) (he:PE X e (zg κ E d)) (hi:X.N[i]? =some x:=by rfl) (hx:qh X.env.scope x:=by exact Or.inl rfl) (hs:swapsWith e (some (.Name x pos')) pos.line X.env=pure false:=by rfl)
 (hf:X.fn x=true∨X.env.scope.names.lookup x=some .local:=by first | exact .inl rfl | exact .inr rfl | assumption):PS X (.Assign [.Name x pos'] e pos) (zj κ E (sSet i d)):=zjp hN hi hx he hs hf
theorem yR (i:Nat) {x:Str} {pos:Pos} (hN:X.N.Nodup) (hi:X.N[i]? =some x:=by rfl) (hx:qh X.env.scope x:=by exact Or.inl rfl) (hf:X.fn x=true∨X.env.scope.names.lookup x=some .local:=by first | exact .inl rfl | exact .inr rfl | assumption):PG X (.Name x pos) (yf κ (gN i)):=zju (zjo hN hi hx hf)
theorem w_gc {x:Str} {pos:Pos} (i:Nat) (N:List Str) (nd:N.Nodup:=by decide+kernel) (eN:X.N=N:=by rfl) (hi:N[i]? =some x:=by rfl) (hx:qh X.env.scope x:=by exact Or.inl rfl) (hl:X.env.scope.names.lookup x=some .local:=by rfl):PG X (.Name x pos) (yf κ (gN i)):=zju (pgc i N nd eN hi hx hl)
theorem w_f {iter:Expr} {body:List Stmt} {it:I3} {g:G3} {b:D3} (hi:PI X tg iter (tiOf κ E it)) (hg:PG X tg (yf κ g)) (hb:zW X body (zj κ E b)) (hp:PassesOwn (model X.prog X.w) X.A X.env X.xe:=by exact PassesOwn.leaving) (hc:X.calm=true:=by rfl)
 (hs: ∀x,foldedSetIterable iter X.env x=pure x:=by intro _;rfl):PS X (.For tg iter body [] pos) (zj κ E (zB it g b)):=zrg hp hc hi hg hb hs
theorem w_l {l:Expr} {d:P3} (hl:PE X l (zh κ E d)) (hK:X.K=κ.K:=by rfl):PI X tg l (tiOf κ E (iL d)):=zpp hK hl
theorem zD {N P:List Str} {sc:Scope} (k1:sc.kind= .function:=by rfl) (k2:sc.isCoroutine=false:=by rfl) (k3:sc.isGenerator=false:=by rfl) (k4:N.Nodup:=by decide+kernel) (k5:N.take P.length=P:=by rfl)
 (k6: ∀x∈P,sc.names.lookup x=some .local∨sc.names.lookup x=some .cell:=by decide+kernel) (k7: ∀y∈sc.names,y.2≠ .free:=by decide+kernel):FnScope N P sc:=⟨k1,k2,k3,k4,k5,k6,k7⟩
theorem zI {x:Str} {st:Stmt} {es:List Expr} {f:F3} {t:A3} {k k0:Nat} {fa:Addr} {fd:FuncData} {ps:List Str} {n:Nat} (hf:zu f n) (Fk:FnOk X.prog X.w X.K X.mg X.base (XT X.prog X.w) k fa fd ps (zo κ n f)) (hr:Room k0 X.A) (d:Dfn X.K X.mg x st ps fa fd) (ha:PA X (e::es) (zw κ E t)) (hx:zff (XT X.prog X.w) X E:=by exact ztb) (hk:k≤k0:=by decide) (hg:Gl X x:=by rfl)
 (hdb:(x==("__debug__" :Str))=false:=by decide) (he:starEach (e::es) X.env=(false,eval e X.env)::starEach es X.env:=by rfl) (hpl:(backTo pos (starEach es X.env)).any (·.1)=false:=by rfl):
 PE X (.Call (.Name x np) (e::es) [] pos) (zg κ E (eCall f t)):=znh hf Fk (hr.mono hk) hg d.g d.F.kp d.b hx ha hdb he hpl
theorem yv {x:Str} {es:List Expr} {t:A3} {id:String} {r:List V→Hp→VK→Prop} {f:FB} (hs:qs κ r f) (hc:yF X (.builtin id) r) (hm:X.mg x=none) (hv:bootBuiltins x=some (.builtin id)) (ha:PA X (e::es) (zw κ E t)) (hg:Gl X x:=by rfl) (hn:x≠"__name__" :=by decide) (hdb:(x==("__debug__" :Str))=false:=by decide)
 (he:starEach (e::es) X.env=(false,eval e X.env)::starEach es X.env:=by rfl) (hpl:(backTo pos (starEach es X.env)).any (·.1)=false:=by rfl):
 PE X (.Call (.Name x np) (e::es) [] pos) (zg κ E (eB f t)):=r_b hs hc hg hm hv ha hn hdb he hpl
end
def spL (K:PySem.W.Frag):Sp:=fun vs H Q _=> ∃(a:Addr) (ns:List Int),vs=[.ref a]∧ns.length≤63∧SqL K H a (ns.map V.int)∧Only H∧∀H',Q (.bl true) H'
theorem spL_of {κ:Kx} {f:F3} (h: ∀ns:List Int,ns.length≤63→∃h',f [.scr ns] []= .ok (.v (.bl true)) h') {vs:List V} {H:Hp} {Q:VK} {E:XK} (q:spL κ.K vs H Q E):zo κ 1 f vs H Q E:=by
 obtain ⟨a,ns,rfl,hn,hS,hO,hQ⟩:=q
 obtain ⟨h',e⟩:=h ns hn
 refine ⟨fun _=>False,[],[.scr ns],[],rfl,⟨rfl,fun i j a h=>by simp at h,fun a h=>h.elim,fun a h=>h.elim,fun i a h=>by simp at h,fun i c h=>by simp at h⟩,.cons ?_ .nil,?_⟩
 ·rcases hS with hS | hS
  ·rcases hS with hS | ⟨o,hS⟩
   ·rcases hO a with z | ⟨o,xs,z⟩
    ·rw [hS] at z;cases z
    ·rw [hS] at z;cases z
   ·exact .scr hS (by simp) fun z=>z
  ·exact .scrK hS
 ·rw [e]
  intro β' v H' ex p
  obtain ⟨_,r⟩:=p
  cases r
  exact hQ H'
theorem noX {P:Program} {w:World} {H:Hp} {s:Shared} {e:Value} {s':Shared} (h:XT P w [] H s (fun _ _ _=>False) e s'):False:=by
 obtain ⟨_,_,_,_,_,_,_,_,_,_,_,_,_,_,_,_,q⟩:=h
 exact q
end L3
namespace L3
open PySem L2
theorem yW {a b:D3} {s s1:S3} {h h1:H3} (e:a s h= .nx s1 h1):sSeq a b s h=b s1 h1:=by unfold sSeq;rw [e]
theorem zlx {ok:H3→Prop} {g:G3} {b:D3} {h:H3} {Q:O3→Prop} (I:Nat→S3→Prop) {xs:List V3} {s:S3} (hok:ok h) (h0:I 0 s)
  (step: ∀(i:Nat) x s,xs[i]? =some x→I i s→∃s1,g x s=some s1∧((∃s2,(b s1 h= .nx s2 h∨b s1 h= .ct s2 h)∧I (i+1) s2)∨(∃r h2,b s1 h= .rt r h2∧Q (.rt r h2))∨∃s2,b s1 h= .bk s2 h∧Q (.nx s2 h)))
  (done: ∀s,I xs.length s→Q (.nx s h)):Q (zq ok g b xs s h):=by
 have gen: ∀(n i:Nat) (s:S3),n=xs.length - i→i≤xs.length→I i s→Q (zq ok g b (xs.drop i) s h):=by
  intro n
  induction n with
  | zero=>
   intro i s hn hi hI
   have:i=xs.length:=by omega
   subst this
   rw [List.drop_length]
   unfold zq
   rw [if_pos hok]
   exact done s hI
  | succ n ih=>
   intro i s hn hi hI
   have hlt:i < xs.length:=by omega
   rw [List.drop_eq_getElem_cons hlt]
   unfold zq
   rw [if_pos hok]
   obtain ⟨s1,hg,hs⟩:=step i xs[i] s (zR hlt) hI
   simp only [hg]
   rcases hs with ⟨s2,hb,hI2⟩ | ⟨r,h2,hb,hq⟩ | ⟨s2,hb,hq⟩
   ·rcases hb with hb | hb <;> simp only [hb] <;> exact ih (i+1) s2 (by omega) hlt hI2
   ·simp only [hb];exact hq
   ·simp only [hb];exact hq
 exact gen _ 0 s rfl (Nat.zero_le _) h0
theorem zkl {ok:H3→Prop} {g:G3} {b:D3} {h:H3} (I:Nat→S3→Prop) {xs:List V3} {s:S3} (hok:ok h) (h0:I 0 s)
  (step: ∀(i:Nat) x s,xs[i]? =some x→I i s→∃s1 s2,g x s=some s1∧b s1 h= .nx s2 h∧I (i+1) s2): ∃s',zq ok g b xs s h= .nx s' h∧I xs.length s':=by
 refine zlx (Q:=fun o=> ∃s',o= .nx s' h∧I xs.length s') I hok h0 (fun i x s hx hI=>?_) fun s hI=>⟨s,rfl,hI⟩
 obtain ⟨s1,s2,h1,h2,h3⟩:=step i x s hx hI
 exact ⟨s1,h1,.inl ⟨s2,.inl h2,h3⟩⟩
theorem zig {α:Type} {ok:H3→Prop} {g:G3} {e:E3} {h:H3} (I:S3→Prop) (enc:α→V3) (f:α→V3) (hok:ok h) {l:List α} (hl:l.length≤sizeLine)
  (step: ∀a s,a∈l→I s→∃s1 r,g (enc a) s=some s1∧I s1∧e s1 h= .ok r h∧r.fz=some (f a)) {s:S3} (h0:I s):
  yO ok g tTru e (l.map enc) [] s h= .ok (l.map f) h:=by
 have gen: ∀(l:List α) (acc:List V3) (s:S3),acc.length+l.length≤sizeLine→(∀a s,a∈l→I s→∃s1 r,g (enc a) s=some s1∧I s1∧e s1 h= .ok r h∧r.fz=some (f a))→I s→yO ok g tTru e (l.map enc) acc s h= .ok (acc++l.map f) h:=by
  intro l
  induction l with
  | nil=>intro acc s _ _ _;rw [List.map_nil];unfold yO;rw [if_pos hok];simp
  | cons x r ih=>
   intro acc s hl st hI
   rw [List.map_cons]
   unfold yO
   rw [if_pos hok]
   obtain ⟨s1,v,h1,h2,h5,h6⟩:=st x s List.mem_cons_self hI
   rw [List.length_cons] at hl
   simp only [h1,tTru,h5,h6,if_pos (show acc.length < sizeLine by omega)]
   rw [ih (acc++[f x]) s1 (by rw [List.length_append,List.length_singleton];omega) (fun x s hx=>st x s (List.mem_cons_of_mem _ hx)) h2]
   simp
 have:=gen l [] s (by simpa using hl) step h0
 simpa using this
theorem zov (l:List Bool):zH bl3 (l.map .bl)=some l:=by
 have:=zfo (f:=bl3) (g:=V3.bl) (k:=id) (fun _=>rfl) l
 simpa using this
theorem at0 {α:Type} {x:α} {r:List α}:atI (x::r) (0:Int)=some x:=qe (j:=0) rfl
theorem at1 {α:Type} {x y:α} {r:List α}:atI (x::y::r) (1:Int)=some y:=qe (j:=1) rfl
theorem at2 {α:Type} {x y z:α} {r:List α}:atI (x::y::z::r) (2:Int)=some z:=qe (j:=2) rfl
theorem at3 {α:Type} {x y z u:α} {r:List α}:atI (x::y::z::u::r) (3:Int)=some u:=qe (j:=3) rfl
theorem at4 {α:Type} {x y z u v:α} {r:List α}:atI (x::y::z::u::v::r) (4:Int)=some v:=qe (j:=4) rfl
theorem zfg {i j:Int} (h: -(2 ^ 64) < i∧i < 2 ^ 64):CMul i j:= .inl h
theorem zj0 {i j:Int} (h: -(2 ^ 64) < j∧j < 2 ^ 64):CMul i j:= .inr h
theorem zif {h:H3} {n:Nat} {x y:V3} {a b:V} (hx:zL h x= .f a) (hy:zL h y= .f b):zp h n x y=some (eqV a b):=by
 cases n <;> simp only [zp,hx,hy]
theorem zhk {h:H3} {n:Nat} {i j:Int}:zp h n (.int i) (.int j)=some (decide (i=j)):=by
 rw [zif (a:= .int i) (b:= .int j) rfl rfl];congr 1
theorem zhf {h:H3} {n:Nat} {i j:Str}:zp h n (.str i) (.str j)=some (decide (i=j)):=by
 rw [zif (a:= .str i) (b:= .str j) rfl rfl];congr 1
theorem nx_ite {c:Prop} [Decidable c] {a b:S3} {h:H3}:(if c then O3.nx a h else O3.nx b h)=O3.nx (if c then a else b) h:=by split <;> rfl
theorem rt_ite {c:Prop} [Decidable c] {a b:Vl} {h:H3}:(if c then O3.rt a h else O3.rt b h)=O3.rt (if c then a else b) h:=by split <;> rfl
theorem ok_ite {α:Type} {c:Prop} [Decidable c] {a b:α} {h:H3}:(if c then Res.ok a h else Res.ok b h)=Res.ok (if c then a else b) h:=by split <;> rfl
theorem cons_ite {α:Type} {c:Prop} [Decidable c] {a b:α} {x y:List α}:(if c then a::x else b::y)=(if c then a else b)::(if c then x else y):=by split <;> rfl
theorem some_ite {α:Type} {c:Prop} [Decidable c] {a b:α}:(if c then some a else some b)=some (if c then a else b):=by split <;> rfl
theorem v_ite {c:Prop} [Decidable c] {a b:V3}:(if c then Vl.v a else Vl.v b)=Vl.v (if c then a else b):=by split <;> rfl
theorem int_ite {c:Prop} [Decidable c] {a b:Int}:(if c then V3.int a else V3.int b)=V3.int (if c then a else b):=by split <;> rfl
theorem bl_ite {c:Prop} [Decidable c] {a b:Bool}:(if c then V3.bl a else V3.bl b)=V3.bl (if c then a else b):=by split <;> rfl
theorem oEq_int {s:S3} {h:H3} {i j:Int}:yU s h (.x (.int i)) (.x (.int j))=some (.v (.bl (decide (i=j)))):=by
 unfold yU yH;simp only [rdm,rdl,zhk,Option.map_some]
theorem oNe_int {s:S3} {h:H3} {i j:Int}:yk s h (.x (.int i)) (.x (.int j))=some (.v (.bl (!decide (i=j)))):=by
 unfold yk yH;simp only [rdm,rdl,zhk,Option.map_some]
theorem oAdd_int {s:S3} {h:H3} {i j:Int}:zl s h (.x (.int i)) (.x (.int j))=some (.v (.int (i+j))):=rfl
theorem oAddI_int {s:S3} {h:H3} {i j:Int}:zkw s h (.x (.int i)) (.x (.int j))=some (.v (.int (i+j))):=rfl
theorem oSub_int {s:S3} {h:H3} {i j:Int}:zY s h (.x (.int i)) (.x (.int j))=some (.v (.int (i - j))):=rfl
theorem oMul_int {s:S3} {h:H3} {i j:Int} (c:CMul i j):zC s h (.x (.int i)) (.x (.int j))=some (.v (.int (i*j))):=by
 unfold zC yN zpo oI;simp only [if_pos c,Option.map_some]
theorem oDiv_int {s:S3} {h:H3} {i j:Int} (a:0 < j) (b:j < 1073741824):oDiv s h (.x (.int i)) (.x (.int j))=some (.v (.int (i / j))):=by
 unfold oDiv oI;simp only [if_pos (show CDiv i j from ⟨a,b⟩),Option.map_some]
theorem oMod_int {s:S3} {h:H3} {i j:Int} (c:0 < j):zn s h (.x (.int i)) (.x (.int j))=some (.v (.int (i % j))):=by
 unfold zn oI;simp only [if_pos c,Option.map_some]
theorem oShr_int {s:S3} {h:H3} {i j:Int} (c:0≤j):oShr s h (.x (.int i)) (.x (.int j))=some (.v (.int (i / 2 ^ j.toNat))):=by
 unfold oShr oI;simp only [if_pos c,Option.map_some]
theorem oPow_int {s:S3} {h:H3} {i j:Int} (c:CPow i j):zF s h (.x (.int i)) (.x (.int j))=some (.v (.int (i ^ j.toNat))):=by
 unfold zF oI;simp only [if_pos c,Option.map_some]
theorem oAndI_int {s:S3} {h:H3} {i j:Int}:zs1 s h (.x (.int i)) (.x (.int j))=some (.v (.int (Builtin.bitAnd i j))):=rfl
theorem oLt_int {s:S3} {h:H3} {i j:Int}:oLt s h (.x (.int i)) (.x (.int j))=some (.v (.bl (decide (i < j)))):=rfl
theorem oLe_int {s:S3} {h:H3} {i j:Int}:oLe s h (.x (.int i)) (.x (.int j))=some (.v (.bl (decide (i≤j)))):=rfl
theorem oGt_int {s:S3} {h:H3} {i j:Int}:oGt s h (.x (.int i)) (.x (.int j))=some (.v (.bl (decide (j < i)))):=rfl
theorem oGe_int {s:S3} {h:H3} {i j:Int}:oGe s h (.x (.int i)) (.x (.int j))=some (.v (.bl (decide (j≤i)))):=rfl
theorem oIx_tup {s:S3} {h:H3} {xs:List V3} {i:Int}:zE s h (.x (.tup xs)) (.x (.int i))=(atI xs i).map .v:=by
 unfold zE yN oIxT oIxL oIxS;simp only [rdl];cases atI xs i <;> rfl
theorem oIx_lst {s:S3} {h:H3} {xs:List V3} {i:Int}:zE s h (.x (.lst xs)) (.x (.int i))=(atI xs i).map .v:=by
 unfold zE yN oIxT oIxL oIxS;simp only [rdl];cases atI xs i <;> rfl
theorem oIx_scr {s:S3} {h:H3} {ns:List Int} {i:Int}:zE s h (.x (.scr ns)) (.x (.int i))=(atI (ns.map .int) i).map .v:=by
 unfold zE yN oIxT oIxL oIxS;simp only [rdl];cases atI (ns.map V3.int) i <;> rfl
theorem sMt_ap {op:FM} {p:P3} {a:A3} {s:S3} {h:H3}:sMt op p a s h=mtO op p a (fun s h _=> .nx s h) s h:=rfl
theorem mAppend_ok {xs:List V3} {y:V3} (h:xs.length < sizeLine):yJ xs [y]=some (xs++[y],.non):=by unfold yJ;simp only [if_pos h]
theorem yr:1000000≤sizeLine:=by decide
theorem sz0:(0≤sizeLine)=True:=by simp
theorem sz1:(1≤sizeLine)=True:=eq_true (by have:=yr;omega)
theorem sz2:(2≤sizeLine)=True:=eq_true (by have:=yr;omega)
theorem sz3:(3≤sizeLine)=True:=eq_true (by have:=yr;omega)
theorem sz4:(4≤sizeLine)=True:=eq_true (by have:=yr;omega)
theorem sz5:(5≤sizeLine)=True:=eq_true (by have:=yr;omega)
def gb (g:G3) (b:D3) (x:V3) (s:S3) (h:H3):O3:=match g x s with
 | some s1=>b s1 h
 | none=> .no
theorem zgl {Q:Res Vl→Prop} {k n:Nat} {b:D3} {vs:List V3} {h:H3} (hl:vs.length=k) (q:Q ((b (start3 n vs) h).res)):Q (fun3 k n b vs h):=by
 unfold fun3;rw [if_pos hl];exact q
theorem zkc {α:Type} {p:P3} {g:G3} {b:D3} {s:S3} {h:H3} {x:V3} {ok:H3→Prop} {enc:α→V3} {l:List α} (ep:p s h= .ok (.x x) h) (hw:zhu h x=some (l.map enc,ok))
  (I:Nat→S3→Prop) (h0:I 0 s) (step: ∀(i:Nat) a s,l[i]? =some a→I i s→∃s2,gb g b (enc a) s h= .nx s2 h∧I (i+1) s2): ∃s',zB (iL p) g b s h= .nx s' h∧I l.length s':=by
 have hf:zB (iL p) g b s h=zq ok g b (l.map enc) s h:=by
  unfold zB iL;simp only [ep,Res.bind,Res.bindS,hw]
 rw [hf]
 have:=zkl (ok:=ok) (g:=g) (b:=b) (h:=h) I (xs:=l.map enc) (s:=s) (zhs hw).1 h0 fun i x s hx hI=>by
  rw [List.getElem?_map] at hx
  obtain ⟨a,ha,rfl⟩:=Option.map_eq_some_iff.1 hx
  obtain ⟨s2,e,hI2⟩:=step i a s ha hI
  unfold gb at e
  cases q:g (enc a) s with
  | none=>rw [q] at e;cases e
  | some s1=>rw [q] at e;exact ⟨s1,s2,rfl,e,hI2⟩
 rwa [List.length_map] at this
theorem zks {a:A3} {g:G3} {b:D3} {s:S3} {h:H3} {j:Int} (ea:a s h= .ok [.x (.int j)] h) (hj: -(2 ^ 62)≤j∧j < 2 ^ 62)
  (I:Nat→S3→Prop) (h0:I 0 s) (step: ∀(i:Nat) s,i < j.toNat→I i s→∃s2,gb g b (.int (i:Int)) s h= .nx s2 h∧I (i+1) s2): ∃s',zB (yQ a) g b s h= .nx s' h∧I j.toNat s':=by
 have hf:zB (yQ a) g b s h=zq (fun _=>True) g b ((List.range j.toNat).map fun k=> .int (0+((k:Nat):Int))) s h:=by
  unfold zB yQ;simp only [ea,Res.bind,Res.bindS,if_pos hj]
 rw [hf]
 have:=zkl (ok:=fun _=>True) (g:=g) (b:=b) (h:=h) I (xs:=(List.range j.toNat).map fun k=> .int (0+((k:Nat):Int))) (s:=s) trivial h0 fun i x s hx hI=>by
  have hi:i < j.toNat:=by
   have:=List.getElem?_eq_some_iff.1 hx
   simpa using this.1
  rw [List.getElem?_map,List.getElem?_range hi] at hx
  cases hx
  obtain ⟨s2,e,hI2⟩:=step i s hi hI
  simp only [Int.zero_add]
  unfold gb at e
  cases q:g (.int i) s with
  | none=>rw [q] at e;cases e
  | some s1=>rw [q] at e;exact ⟨s1,s2,rfl,e,hI2⟩
 rwa [List.length_map,List.length_range] at this
theorem zjj {Q:O3→Prop} {a:A3} {g:G3} {b r:D3} {s:S3} {h:H3} {j:Int} (ea:a s h= .ok [.x (.int j)] h) (hj: -(2 ^ 62)≤j∧j < 2 ^ 62)
  (I:Nat→S3→Prop) (h0:I 0 s) (step: ∀(i:Nat) s,i < j.toNat→I i s→∃s2,gb g b (.int (i:Int)) s h= .nx s2 h∧I (i+1) s2) (k: ∀s',I j.toNat s'→Q (r s' h)):Q (sSeq (zB (yQ a) g b) r s h):=by
 obtain ⟨s',e,hI⟩:=zks ea hj I h0 step
 rw [yW e];exact k s' hI
theorem yE {Q:Res Vl→Prop} {a b:D3} {s s1:S3} {h h1:H3} (e:a s h= .nx s1 h1) (q:Q ((b s1 h1).res)):Q ((sSeq a b s h).res):=by rw [yW e];exact q
theorem zlq {Q:Res Vl→Prop} {a:A3} {g:G3} {b r:D3} {s:S3} {h:H3} {j:Int} (ea:a s h= .ok [.x (.int j)] h) (hj: -(2 ^ 62)≤j∧j < 2 ^ 62)
  (I:Nat→S3→Prop) (h0:I 0 s) (step: ∀(i:Nat) s,i < j.toNat→I i s→∃s2,gb g b (.int (i:Int)) s h= .nx s2 h∧I (i+1) s2) (k: ∀s',I j.toNat s'→Q ((r s' h).res)):Q ((sSeq (zB (yQ a) g b) r s h).res):=
 zjj (Q:=fun o=>Q o.res) ea hj I h0 step k
end L3
namespace L3
open PySem PySem.Spec PyProof.Rows L2
section
variable {X:Cx} {κ:Kx} {E:XK} {F F':Fr} {σ σ':L2.St} {H H1 H':Hp} {Q:VK} {p:Addr} {e a b c o:Expr} {pos apos np cpos:Pos} {i:Nat} {D:Ends} {β:List (Option Addr)} {O:Addr→Prop}
def eDnT:E3:=fun _ h=> .ok (.m (.dT [])) h
theorem zqi:PE X (.Dict [] [] pos) (zg κ E eDnT):=yh zm0 fun σ H Q ⟨F,rel,o⟩ p hp=>o F.β (.ref p) _ (yj hp) (Post.dT rel hp .nil)
end
section
variable {X:Cx} {κ:Kx} {E:XK} {F F':Fr} {σ σ':L2.St} {H H1 H':Hp} {Q:VK} {p:Addr} {e a b c o:Expr} {es:List Expr} {pos apos np cpos:Pos} {i:Nat} {D:Ends}
def eFmt (p:P3):E3:=fun s h=>(p s h).bind fun f h1=>match f with
 | .x (.int i)=>if i.natAbs.log2 < 1920 then .ok (.v (.str (Str.ofString (toString i)))) h1 else .no
 | .x (.str y)=>if y.length≤100000 then .ok (.v (.str y)) h1 else .no
 | _=> .no
theorem zsr {d:P3} (ha:PE X a (zh κ E d)):PE X (.FormattedValue a (-1) none pos) (zg κ E (eFmt d)):=yh (znn ha) fun σ H Q ⟨F,rel,o⟩=>
 (zN (K:=kP κ) zy rel o).mono fun v H1 ⟨β1,h1,f,e1,⟨r1,rf⟩,o1⟩=>by
  match f,rf,o1 with
  | .x (.int i),rf,o1=>
   cases (show Rep κ β1 F.O H1 (.int i) v from rf)
   by_cases hc:i.natAbs.log2 < 1920
   ·simp only [if_pos hc] at o1;exact .inl ⟨i,rfl,hc,o1 β1 _ H1 Ext.refl ⟨r1,.str _⟩⟩
   ·simp only [if_neg hc] at o1;exact o1.elim
  | .x (.str y),rf,o1=>
   cases (show Rep κ β1 F.O H1 (.str y) v from rf)
   by_cases hc:y.length≤100000
   ·simp only [if_pos hc] at o1;exact .inr ⟨y,rfl,hc,o1 β1 _ H1 Ext.refl ⟨r1,.str _⟩⟩
   ·simp only [if_neg hc] at o1;exact o1.elim
def eF3 (a b c:P3):E3:=fun s h=>(a s h).bind fun x h1=>match x with
 | .x (.str i)=>if i.length≤10000 then (b s h1).bind fun y h2=>match y with
  | .x (.str j)=>if j.length≤10000 then (c s h2).bind fun z h3=>match z with
   | .x (.str k)=>if k.length≤10000 then .ok (.v (.str (i++j++k))) h3 else .no
   | _=> .no
   else .no
  | _=> .no
  else .no
 | _=> .no
theorem r_f3 {da db dc:P3} (ha:PE X a (zh κ E da)) (hb:PE X b (zh κ E db)) (hc:PE X c (zh κ E dc)):PE X (.JoinedStr [a,b,c] pos) (zg κ E (eF3 da db dc)):=yh (zth ha hb hc) fun σ H Q ⟨F,rel,o⟩=>
 (zN (K:=kP κ) zy rel o).mono fun v H1 ⟨β1,h1,f,e1,⟨r1,rf⟩,o1⟩=>by
  match f,rf,o1 with
  | .x (.str i),rf,o1=>
   cases (show Rep κ β1 F.O H1 (.str i) v from rf)
   by_cases hi:i.length≤10000
   ·simp only [if_pos hi] at o1
    refine ⟨i,rfl,hi,(zN (F:=F.to β1 h1) (K:=kP κ) zy r1 o1).mono fun v2 H2 ⟨β2,h2,f2,e2,⟨r2,rf2⟩,o2⟩=>?_⟩
    match f2,rf2,o2 with
    | .x (.str j),rf2,o2=>
     cases (show Rep κ β2 F.O H2 (.str j) v2 from rf2)
     by_cases hj:j.length≤10000
     ·simp only [if_pos hj] at o2
      refine ⟨j,rfl,hj,(zN (F:=F.to β2 h2) (K:=kP κ) zy r2 o2).mono fun v3 H3 ⟨β3,h3,f3,e3,⟨r3,rf3⟩,o3⟩=>?_⟩
      match f3,rf3,o3 with
      | .x (.str k),rf3,o3=>
       cases (show Rep κ β3 F.O H3 (.str k) v3 from rf3)
       by_cases hk:k.length≤10000
       ·simp only [if_pos hk] at o3
        exact ⟨k,rfl,hk,o3 β3 _ H3 Ext.refl ⟨r3,.str _⟩⟩
       ·simp only [if_neg hk] at o3;exact o3.elim
     ·simp only [if_neg hj] at o2;exact o2.elim
   ·simp only [if_neg hi] at o1;exact o1.elim
end
section
variable {X:Cx} {κ:Kx} {E:XK} {F F1 F2 F':Fr} {σ σ':L2.St} {H H1 H2 H':Hp} {Q:VK} {p:Addr} {e a b o:Expr} {es:List Expr} {pos apos np cpos hp:Pos} {i:Nat} {D:Ends}
def zds (c:Str) (t:A3):D3:=fun s h=>(t s h).bindS fun fs h1=>if fs.length≤1000 then .ex ⟨c,none⟩ h1 else .no
theorem zfr {c x:Str} {C:Addr} {t:A3} (hk:κ.cl c=some C) (xc:XCl X.K X.mg x C) (hc:X.calm=true) (hg:Gl X x) (hr:zjr X E) (ha:PA X (e::es) (zw κ E t)) (hs:starEach (e::es) X.env=(false,eval e X.env)::starEach es X.env:=by rfl) (hpl:(backTo cpos (starEach es X.env)).any (·.1)=false:=by rfl)
  (hd:(x==("__debug__" :Str))=false:=by decide):PS X (.Raise (some (.Call (.Name x np) (e::es) [] cpos)) none pos) (zj κ E (zds c t)):=
 qv (zlw xc hc hg hr ha hs hpl hd) fun D σ H ⟨F,rel,ht,o⟩=>(bindS (K:=kA κ) rel ht o).mono fun vs H1 ⟨β1,h1,fs,e1,⟨r1,rf⟩,o1⟩=>by
  by_cases hl:fs.length≤1000
  ·rw [if_pos hl] at o1
   exact ⟨by rw [←rf.length];exact hl,o1 (F.to β1 h1) H1 (SExt.of0 ht e1) (r1.heap.sub fun a ha=> .inr (.inr ha)) C none hk rfl⟩
  ·rw [if_neg hl] at o1;exact o1.elim
abbrev Hd:=Str×Option Nat×D3
def noEx:O3→O3
 | .ex _ _=> .no
 | o=>o
def asN (i:Nat):O3→O3
 | .nx s h=> .nx (s.set i none) h
 | .bk s h=> .bk (s.set i none) h
 | .ct s h=> .ct (s.set i none) h
 | .rt r h=> .rt r h
 | _=> .no
def pick (mt:Str→Str→Option Bool) (x:X3) (s:S3) (h:H3):List Hd→O3
 | []=> .no
 | (B,n,k)::r=>match mt x.c B with
  | some true=>match n with
   | none=>noEx (k s h)
   | some i=>if i < s.length then asN i (k (s.set i (some (.v (.fn x.c x.nm.toList)))) h) else .no
  | some false=>pick mt x s h r
  | none=> .no
def trOf (κ:Kx) (E:XK) (mt:Str→Str→Option Bool) (hs:List Hd):Value→Option Addr→TS:=fun cls dd D σ H=> ∃F x C,Rel κ F σ H∧F.T=[]∧κ.cl x.c=some C∧cls= .ref C∧XD F.β F.O H dd x.nm.toList∧SOut κ E F H D (pick mt x F.s F.h hs)
theorem phw {hs:List ExceptHandler} {t t':Value→Option Addr→TS} (h:PHs X hs t) (w: ∀cls dd D σ H,t' cls dd D σ H→t cls dd D σ H):PHs X hs t':=fun pins σ H s D a cls dd c q=>h pins σ H s D a cls dd c (w cls dd D σ H q)
theorem zro {mt:Str→Str→Option Bool}:PHs X [] (trOf κ E mt []):=phw zo7 fun cls dd D σ H ⟨F,x,C,_,_,_,_,_,o⟩=>o
def MtOk (κ:Kx) (mt:Str→Str→Option Bool) (B:Str) (Ba:Addr):Prop:=∀c C v,κ.cl c=some C→mt c B=some v→PySem.W.exmOne κ.K (.ref C) (.ref Ba)=some v
theorem Rel.unset (rel:Rel κ F σ H):Rel κ {F with s:=F.s.set i none} (σ.set i none) H where
 heap:=rel.heap
 slen:=by show (F.s.set i none).length=_;rw [List.length_set,List.length_set];exact rel.slen
 llen:=by show F.l.length=(F.s.set i none).length;rw [List.length_set];exact rel.llen
 linj:=rel.linj
 lt:=rel.lt
 lo:=rel.lo
 to:=rel.to
 tn:=rel.tn
 slot:=fun j x hj=>by
  have hj:(F.s.set i none)[j]? =some (some x):=hj
  by_cases e:j=i
  ·subst e
   by_cases hl:j < F.s.length
   ·rw [List.getElem?_set_self hl] at hj;cases hj
   ·rw [List.getElem?_eq_none (by rw [List.length_set];omega)] at hj;cases hj
  ·rw [List.getElem?_set_ne (Ne.symm e)] at hj
   obtain ⟨v,h1,h2⟩:=rel.slot j x hj
   exact ⟨v,by rw [List.getElem?_set_ne (Ne.symm e)];exact h1,h2⟩
theorem SExt.unset (e:SExt F H F' H'):SExt F H {F' with s:=F'.s.set i none} H':=⟨e.ext,e.lam,e.oi,e.tt⟩
theorem SOut.asN {o:O3} (h:SOut κ E F H D (asN i o)):SOut κ E0 F H {nx:=fun σ' H'=>D.nx (σ'.set i none) H',rt:=D.rt,bk:=fun σ' H'=>D.bk (σ'.set i none) H',ct:=fun σ' H'=>D.ct (σ'.set i none) H'} o:=by
 cases o with
 | ex x h'=>exact h.elim
 | no=>exact h
 | nx s h'=>exact fun F' σ' H' e es eh r=>h _ _ H' e.unset (by show F'.s.set i none=_;rw [es]) eh r.unset
 | bk s h'=>exact fun F' σ' H' e es eh r=>h _ _ H' e.unset (by show F'.s.set i none=_;rw [es]) eh r.unset
 | ct s h'=>exact fun F' σ' H' e es eh r=>h _ _ H' e.unset (by show F'.s.set i none=_;rw [es]) eh r.unset
 | rt r h'=>exact h
theorem zsc {x m:Str} {B:Str} {Ba:Addr} {mt:Str→Str→Option Bool} {hs:List ExceptHandler} {b₀:Stmt} {suite:List Stmt} {k:D3} {r:List Hd} (hK:X.K=κ.K) (hM:MtOk κ mt B Ba) (hN:X.N.Nodup) (hi:X.N[i]? =some m) (hlo:qh X.env.scope m) (hkd:X.env.kindOf m=some .local) (hg:Gl X x) (hm:X.mg x=some (.ref Ba))
  (hs0: ∀e,zW ((X.suite e).wish z6) (b₀::suite) (zj κ E0 k)) (hr:PHs X hs (trOf κ E mt r)) (hd:(x==("__debug__" :Str))=false:=by decide) (hf:X.fn m=true∨X.env.scope.names.lookup m=some .local:=by first | exact .inl rfl | exact .inr rfl | assumption):
  PHs X (.ExceptHandler (some (.Name x np)) (some m) (b₀::suite) hp::hs) (trOf κ E mt ((B,some i,k)::r)):=phw (zrp hN hi hlo hkd hg hm hs0 hr hd hf) fun cls dd D σ H ⟨F,y,C,rel,ht,hC,hcl,xd,o⟩=>by
 subst hcl
 unfold pick at o
 cases q:mt y.c B with
 | none=>rw [q] at o;exact o.elim
 | some v=>
  rw [q] at o
  have ex:=hM y.c C v hC q
  rw [←hK] at ex
  cases v with
  | true=>
   refine .inl ⟨ex,fun a ha=>?_⟩
   by_cases hi':i < F.s.length
   ·simp only [if_pos hi'] at o
    have e1:Ext No F.β H F.β (zi H a (yd a (.ref C) dd)):=yj ha
    have nb:some a∉F.β:=fun z=>by
     obtain ⟨j,hj⟩:=List.getElem?_of_mem z
     obtain ⟨u,hu,_⟩:=rel.heap.btr j a hj
     rw [ha] at hu;cases hu
    have no: ¬F.O a:=fun z=>by
     obtain ⟨u,hu,_⟩:=rel.heap.trk a z
     rw [ha] at hu;cases hu
    have r1:Rel κ F σ (zi H a (yd a (.ref C) dd)):=rel.laid ha
    exact ⟨F.setV i (.fn y.c y.nm.toList),r1.setV (.exc hC zX nb no (xd.imp fun d u h n q=>⟨by rw [zv (fun z=>by subst z;rw [ha] at h;cases h)];exact h,n,q⟩)) hi',ht,SOut.asN (SOut.move ((SExt.of0 (h':=F.h) ht e1).trans (SExt.setN ht)) o)⟩
   ·simp only [if_neg hi'] at o;exact o.elim
  | false=>exact .inr ⟨ex,F,y,C,rel,ht,hC,rfl,xd,o⟩
end
section
variable {X:Cx} {κ:Kx}
def bIsE (mt:Str→Str→Option Bool):FB:=fun s h fs=>match fs with
 | [.x (.fn c _),.x (.cls B)]=>(mt c B).map fun b=> .v (.bl b)
 | _=>none
def IsOk (κ:Kx) (mt:Str→Str→Option Bool):Prop:=∀c B C Ba v,κ.cl c=some C→κ.cl B=some Ba→mt c B=some v→ExK κ.K C∧PySem.W.kitOne κ.K (.ref C) (.ref Ba)=some v
abbrev rIsE (κ:Kx):List V→Hp→VK→Prop:=fun xs H Q=> ∃a C dd c b,xs=[.ref a,.ref c]∧H a=some (yd a (.ref C) dd)∧ExK κ.K C∧PySem.W.kitOne κ.K (.ref C) (.ref c)=some b∧Q (.bl b) H
theorem zf4 {mt:Str→Str→Option Bool} (ok:IsOk κ mt):qs κ (rIsE κ) (bIsE mt):=fun F σ H fs z vs Q rel r e k=>by
 unfold bIsE at e
 split at e
 ·rename_i c gs B
  obtain ⟨v,w,rfl,rv,rw'⟩:=p2 r
  cases q:mt c B with
  | none=>rw [q] at e;cases e
  | some b=>
   rw [q] at e;cases e
   cases (show Rep κ F.β F.O H (.fn c gs) v from rv) with
   | @exc _ C a dd _ hc ha _ _ _=>
    cases (show Rep κ F.β F.O H (.cls B) w from rw') with
    | @cls _ Ba hb=>
     obtain ⟨h1,h2⟩:=ok c B C Ba b hc hb q
     exact ⟨a,C,dd,Ba,b,rfl,ha,h1,h2,k _ H Ext.refl ⟨rel,.bl _⟩⟩
 ·cases e
theorem zel (hK:X.K=κ.K):yF X (.builtin "isinstance") (rIsE κ):=by
 intro pins s σ H xs us Q I r h
 obtain ⟨a,C,dd,c,b,rfl,ha,z,e,q⟩:=h
 obtain ⟨u,v,rfl,rx,ry⟩:=zl7 r
 cases rx;cases ry
 rw [←hK] at z e
 exact zfb z I ha e fun tk=>⟨.bl b,H,I.tok tk,rfl,q⟩
theorem zk7 (hK:X.K=κ.K):yF X (.type "tuple") (fun xs H Q=> ∃p ys,xs=[.ref p]∧SqL κ.K H p ys∧∀l,H l=none→Q (.ref l) (zi H l (.tup ys))):=by
 intro pins s σ H xs us Q I r h
 obtain ⟨p,ys,rfl,hq,q⟩:=h
 obtain ⟨u,rfl,rx⟩:=zmf r
 cases rx
 rw [←hK] at hq
 obtain ⟨its,rv,pl,hz⟩:=I.list hq
 have hlen:=rv.length
 refine call_tuple_list pl.isList (fun h' hk=>?_) (by simp only [List.size_toArray];omega)
 have I1:Inv X pins σ H {s with heap:=h'}:=I.kept (t':=s.toks) hk
 have hf:H h'.objs.size=none:=I1.hok.fresh (Nat.le_refl _)
 exact ⟨.ref h'.objs.size,_,I1.laid (t':=s.toks) (fun b u e=>Heap.get?_push_of_some _ e) (Nat.le_refl _) (show ObjOk X.prog X.w _ (h'.push _) _ (.tup ys) from ⟨hz,its,rv,⟨_,Heap.get?_push_size _ rfl,rfl,_,rfl⟩⟩),rfl,q _ hf⟩
def zk6:FB:=fun s h fs=>match fs with
 | [f]=>(rdl s h f).map fun xs=> .v (.tup xs)
 | _=>none
theorem zlv:qs κ (fun xs H Q=> ∃p ys,xs=[.ref p]∧SqL κ.K H p ys∧∀l,H l=none→Q (.ref l) (zi H l (.tup ys))) zk6:=fun F σ H fs z vs Q rel r e k=>by
 unfold zk6 at e
 split at e
 ·rename_i f
  obtain ⟨v,rfl,rv⟩:=p1 r
  cases q1:rdl F.s F.h f with
  | none=>rw [q1] at e;cases e
  | some xs=>
   rw [q1] at e;cases e
   obtain ⟨a,ys,rfl,sq,rs⟩:=zdp rel rv q1
   exact ⟨a,ys,rfl,sq,fun l hl=>k _ _ (yj hl) (Post.tup rel hl rs)⟩
 ·cases e
def zT (l:List (Str×Str×Bool)) (c B:Str):Option Bool:=match l with
 | []=>none
 | (x,y,v)::r=>if x=c∧y=B then some v else zT r c B
def MtL (κ:Kx) (l:List (Str×Str×Bool)):Prop:=∀c B v,zT l c B=some v→∃C Ba,κ.cl c=some C∧κ.cl B=some Ba∧PySem.W.exmOne κ.K (.ref C) (.ref Ba)=some v∧PySem.W.kitOne κ.K (.ref C) (.ref Ba)=some v∧ExK κ.K C
theorem MtL.nil:MtL κ []:=fun c B v e=>by cases e
theorem MtL.cons {x y:Str} {v:Bool} {C Ba:Addr} {l:List (Str×Str×Bool)} (h1:κ.cl x=some C) (h2:κ.cl y=some Ba) (h3:PySem.W.exmOne κ.K (.ref C) (.ref Ba)=some v) (h4:PySem.W.kitOne κ.K (.ref C) (.ref Ba)=some v) (h5:ExK κ.K C) (r:MtL κ l):MtL κ ((x,y,v)::l):=fun c B u e=>by
 unfold zT at e
 by_cases q:x=c∧y=B
 ·rw [if_pos q] at e;obtain ⟨rfl,rfl⟩:=q;cases e
  exact ⟨C,Ba,h1,h2,h3,h4,h5⟩
 ·rw [if_neg q] at e;exact r c B u e
theorem MtL.ok {l:List (Str×Str×Bool)} {B:Str} {Ba:Addr} (h:MtL κ l) (hB:κ.cl B=some Ba):MtOk κ (zT l) B Ba:=fun c C v hc e=>by
 obtain ⟨C',Ba',a,b,x,_⟩:=h c B v e
 rw [hc] at a;rw [hB] at b;cases a;cases b;exact x
theorem MtL.is {l:List (Str×Str×Bool)} (h:MtL κ l):IsOk κ (zT l):=fun c B C Ba v hc hB e=>by
 obtain ⟨C',Ba',a,b,_,x,z⟩:=h c B v e
 rw [hc] at a;rw [hB] at b;cases a;cases b;exact ⟨z,x⟩
end
end L3
namespace L2
open PySem PySem.Spec PyProof.Rows
section
variable {A:Around} {E:Value→Shared→Prop} {env:Env}
variable {nm q:Str} {C N:Addr} {bs bm:List Value} {hdct:Bool} {sn:List Str} {sub:List Value} {ab:Bool} {col:Option Bool} {dd:Option Addr} {k0 k1 k2 k3 k5:Option Value} {newId:String}
theorem zox {M:Model} {s:Shared} {x:Sem Value} {Q:Flow→Shared→Prop} (hbase:bm.contains (.type "BaseException")=true) (hh:A.handled=none)
  (h:wpAny M A x (fun v s₁=> ∃e dx vs sl,v= .ref e∧s₁.heap.get? C=some (excClassObj nm q C N bs bm hdct sn sub ab col dd k0 k1 k2 k3 k5 newId)∧s₁.heap.get? e=some ⟨.ref C,dx,.fields vs,sl⟩∧vs[1]? =some .none∧E (.ref e) s₁) E s):
  wpAny M A (raiseStmt env (some x) none) Q E s:=by
 have hcB:(Value.ref C::bm).contains (.type "BaseException")=true:=by rw [List.contains_cons,hbase,Bool.or_true]
 unfold raiseStmt
 refine wpAny_bind (zk h fun v s₁ h₁=>?_)
 obtain ⟨e,dx,vs,sl,rfl,hC,he,h1,hE⟩:=h₁
 obtain ⟨hp,g,d,tk,os⟩:=s₁
 repeat (first | with_reducible refine wpAny_field he rfl h1 ?_ | with_reducible refine wpAny_loadPart_at he ?_ | with_reducible refine wpAny_loadPart_at hC ?_ | (with_reducible refine wpAny_isSubtype_exc hC ?_;rw [hcB]) | wp_step)
 exact wpAny_raiseNew_none hh hE
end
def fg (H:Hp) (a:Addr):Hp:=fun b=>if b=a then none else H b
theorem zhi {H:Hp} {a b:Addr} (h:b≠a):fg H a b=H b:=by unfold fg;rw [if_neg h]
theorem zft {H:Hp} {a:Addr}:fg H a a=none:=by unfold fg;rw [if_pos rfl]
theorem zfm {H:Hp} {a b:Addr} (h:H b=none):fg H a b=none:=by unfold fg;split <;> first | rfl | exact h
section
variable {X:Cx} {pins:List (Addr×Obj)} {σ:St} {H:Hp} {s:Shared} {a C f:Addr} {φ:Heap→Prop}
theorem HOk.forget {P:Program} {w:World} {h:Heap} (x:HOk P w H h) (e:H a=some (.ext φ)):HOk P w (fg H a) h:=fun b u q=>by
 have hb:b≠a:=fun z=>by rw [z,zft] at q;cases q
 rw [zhi hb] at q
 exact (x b u q).stay (fun c v _ r=>r) (fun c r=>by rw [zhi (fun z=>by rw [z,e] at r;cases r)];exact r) fun c xs r=>by rw [zhi (fun z=>by rw [z,e] at r;cases r)];exact r
theorem Inv.forget (I:Inv X pins σ H s) (e:H a=some (.ext φ)):Inv X pins σ (fg H a) s:=by
 refine ⟨I.ok,I.os,I.bare,⟨I.base.keep,I.base.slot,fun b u q n hx=>zfm (I.base.free b u q n hx),I.base.there,fun b xs q=>?_,fun b u v q=>?_,fun b ps q=>?_⟩,I.loc,I.cell,zfm I.free,fun y c q=>zfm (I.freeC y c q),fun p q=>?_,I.hok.forget e,I.len⟩
 ·have r:=I.base.tups b xs q
  rw [zhi (fun z=>by rw [z,e] at r;cases r)];exact r
 ·have r:=I.base.frzs b u v q
  rw [zhi (fun z=>by rw [z,e] at r;cases r)];exact r
 ·obtain ⟨more,r⟩:=I.base.tbls b ps q
  exact ⟨more,by rw [zhi (fun z=>by rw [z,e] at r;cases r)];exact r⟩
 ·obtain ⟨r1,r2,r3⟩:=I.pin p q
  exact ⟨r1,zfm r2,r3⟩
def zhp (X:Cx) (E:XK):Prop:=∀(pins:List (Addr×Obj)) (σ:St) (H:Hp) (s:Shared) (a C:Addr) (dd:Option Addr),Inv X pins σ H s→H a=some (zO a (.ref C) dd)→X.s₀.heap.get? a=none→E (.ref C) dd (fg H a)→X.xe (.ref a) s
theorem zr0 {P:Program} {w:World} {K:PySem.W.Frag} {mg:Str→Option Value} {base:Heap} {N:List Str} {qual:Str} {scope:Scope} {f:Addr} {cd:Value} {A:Around} {outer:List Env} {s0:Shared} {H0:Hp} {E:XK}:zhp (zK (XT P w) P w K mg base N qual scope f cd A outer s0 H0 E) E:=by
 intro pins σ H s a C dd I ea old q
 obtain ⟨⟨o,vs,t0,ho,hc,hd,hdd,h0,h1⟩,_⟩:=(show ObjOk P w H s.heap a (zO a (.ref C) dd) from I.hok a _ ea)
 obtain ⟨oc,od,odt,osl⟩:=o
 dsimp only at hc hd hdd
 subst hc hd hdd
 have I':=I.forget ea
 refine zgi (base:=base) (L:=s0.heap.objs.size) (a0:= .ref t0) I'.ok.frames I'.stack rfl ho rfl h1 h0 fun h'' T' y=>?_
 obtain ⟨u,hk,n1,n2⟩:=I'.left rfl rfl y fun b hb=>by
  rcases List.mem_cons.mp hb with z | hb
  ·rw [z];exact ⟨.inr old,zft⟩
  ·exact ⟨.inl hb,I'.stkFree b hb⟩
 exact ⟨a,T',.ref C,_,_,fg H a,rfl,I'.os,I'.bare,u,hk,old,n1,zft,n2,y.trc,q⟩
end
section
variable {X:Cx} {C f:Addr} {fd:FuncData} {ps:List Str} {sp:Sp} {k:Nat} {x:Str} {np cpos pos:Pos} {e:Expr} {es:List Expr} {ta:TA} {E:XK}
def zof (C:Addr) (sp:Sp) (E:XK) (ta:TA):TS:=fun _ σ H=>ta σ H fun vs H1=>vs.length≤1000∧∀a,H1 a=none→sp (.ref a::vs) (zi H1 a (zO a (.ref C) none)) (fun v H2=>v= .non∧∃dd,H2 a=some (zO a (.ref C) dd)∧E (.ref C) dd (fg H2 a)) (fun _ _ _=>False)
theorem zko (c:XI X.K C f) (hc:X.calm=true) (hg:Gl X x) (hm:X.mg x=some (.ref C)) (F:FnOk X.prog X.w X.K X.mg X.base (XT X.prog X.w) k f fd ps sp) (hr:Room (k+1) X.A) (hb:Binds X.K fd ps []) (hex:X.ex=[]) (hrs:zhp X E) (ha:PA X (e::es) ta)
  (hs:starEach (e::es) X.env=(false,eval e X.env)::starEach es X.env:=by rfl) (hp:(backTo cpos (starEach es X.env)).any (·.1)=false:=by rfl) (hd:(x==("__debug__" :Str))=false:=by decide):
  PS X (.Raise (some (.Call (.Name x np) (e::es) [] cpos)) none pos) (zof C sp E ta):=by
 intro pins s σ H D I h
 obtain ⟨nm,q,N,bs,bm,hdct,sn,sub,ab,col,dd,k0,k1,k2,k3,k5,hC,T⟩:=c.own I.ok.mod.kin
 have hplain:(backTo cpos (starEach (e::es) X.env)).any (·.1)=false:=by rw [hs];show (false || _)=false;rw [Bool.false_or];exact hp
 rw [arm_exec_Raise]
 refine wpAny_bind (wpAny_standAt (zox (C:=C) (nm:=nm) (q:=q) (N:=N) (bs:=bs) (bm:=bm) (hdct:=hdct) (sn:=sn) (sub:=sub) (ab:=ab) (col:=col) (dd:=dd) (k0:=k0) (k1:=k1) (k2:=k2) (k3:=k3) (k5:=k5) (newId:="ValueError.__new__") (T.hasType (by decide)) (I.ok.hd hc) ?_))
 refine wpAny_bind (wpAny_mono (wpAny_Call_Name_kw (zc1 I hg hm ?_ hd)) (fun v s₃ h₃=>wpAny_bind (wpAny_standAt (wpAny_pure h₃))) fun _ _ x=>x)
 refine PySem.W.callWith_K (h₀:=X.base) I.ok.mod.kin c.kp (zk (ha cpos pins s σ H _ I h) fun us s1 ⟨vs,H1,I1,rv,hl,q1⟩=>⟨I1.kIn,?_⟩) hs hp
 obtain ⟨hh,g,d,tk,os⟩:=s1
 refine zpd c I1.kIn (T.keeps I1.bk) (I1.bk _ _ hC) (fun h' a ge mk=>?_) (by show ([]++us).length≤sizeLine;rw [List.nil_append,←rv.length];exact Nat.le_of_lt (zgh hl))
 obtain ⟨t0,hx,_,_⟩:=mk.there
 have na:H1 a=none:=I1.hok.untracked mk.new
 have I2:=I1.laid (a:=a) (o:=zO a (.ref C) none) (h':=h') (t':=tk) mk.keeps ge (zps ⟨_,_,t0,hx,rfl,rfl,rfl,rfl,rfl⟩)
 have hq:=q1 a na
 have r2:Vals (V.ref a::vs) (Value.ref a::us):= .cons rfl rv
 have hl2:(Value.ref a::us++([]:List Value)).length=ps.length:=by
  have e:=r2.length
  rw [F.len _ _ _ _ hq] at e
  rw [List.append_nil];exact e.symm
 have old:X.s₀.heap.get? a=none:=by
  cases z:X.s₀.heap.get? a with
  | none=>rfl
  | some o=>exact absurd (Nat.lt_of_lt_of_le (Heap.lt_size z) (Nat.le_trans I1.sz ge)) (Nat.lt_irrefl _)
 refine wpAny_call (codeAny_mono (F.run _ X.stack _ _ ⟨Value.ref a::us,[]⟩ (Value.ref a::us) _ _ _ (hr.make C us []) (I2.env0.make C us []) (by have:=hb _ (Value.ref a::us) I2.kIn hl2;rw [List.append_nil] at this;exact this) r2 hq) fun r s' hq'=>?_)
 cases r with
 | error e=>
  obtain ⟨_,_,_,_,_,_,_,_,_,_,_,_,_,_,_,_,z⟩:=hq'
  exact z.elim
 | ok fl=>
  cases fl with
  | ret u=>
   obtain ⟨v,H',I3,rv,ev,dx,ea,q3⟩:=I2.after hq'
   subst ev
   obtain ⟨⟨o,ws,t1,ho,hoc,hod,hodd,h0,h1⟩,_⟩:=(show ObjOk X.prog X.w H' s'.heap a (zO a (.ref C) dx) from I3.hok a _ ea)
   obtain ⟨oc,od,odt,osl⟩:=o
   dsimp only at hoc hod hodd
   subst hoc hod hodd
   exact ⟨rv,a,_,_,_,rfl,I3.bk _ _ hC,ho,h1,hrs pins σ H' s' a C _ I3 ea old q3⟩
  | next=>exact False.elim hq'
  | brk=>exact False.elim hq'
  | cont=>exact False.elim hq'
end
section
variable {X:Cx} {a b:Expr} {pos:Pos} {ta tb:TE}
def tF2 (ta tb:TE):TE:=fun σ H Q=>ta σ H fun x H1=> ∃i,x= .str i∧i.length≤10000∧tb σ H1 fun y H2=> ∃j,y= .str j∧j.length≤10000∧Q (.str (i++j)) H2
theorem zta (ha:PE X a ta) (hb:PE X b tb):PE X (.JoinedStr [a,b] pos) (tF2 ta tb):=by
 intro pins s σ H Q I h
 have sz:40000≤sizeLine:=by decide
 refine wpAny_JoinedStr ?_
 refine wpAny_mono (ha pins s σ H _ I h) (fun v s1 ⟨x,H1,I1,r1,i,ei,li,q1⟩=>?_) fun _ _ e=>e
 subst ei
 obtain ⟨t1,rfl⟩:=r1
 have e0:Str.empty++i=i:=Str.empty_append i
 refine ⟨i,t1,rfl,by rw [e0];omega,?_⟩
 rw [e0]
 refine wpAny_mono (hb pins s1 σ H1 _ I1 q1) (fun v s2 ⟨x,H2,I2,r2,j,ej,lj,q2⟩=>?_) fun _ _ e=>e
 subst ej
 obtain ⟨t2,rfl⟩:=r2
 refine ⟨j,t2,rfl,by rw [strLen_append];omega,?_⟩
 exact ⟨by rw [strLen_append];omega,.str _,H2,I2.tok _,⟨_,rfl⟩,q2⟩
end
def zlo (C:Addr):Sp:=fun vs H Q _=> ∃a z,vs=[.ref a,.str z]∧z.length≤10000∧H a=some (zO a (.ref C) none)∧∀d,H d=none→Q .non (zi (zi H a (zO a (.ref C) (some d))) d (.xd [(("name" :Str),V.str z)]))
theorem zom {P:Program} {w:World} {K:PySem.W.Frag} {mg:Str→Option Value} {base:Heap} {x qual:Str} {st:Stmt} {f C:Addr} {fd:FuncData} {k:Nat} {w0:Str} (c:XI K C f) (Fn:Fun K x qual st f fd) (S:FnScope ["self","name"] ["self","name"] (zx st)) (hw:w0.length≤10000)
  (hb: ∀(cdv:Value) (A:Around) (outer:List Env) (s:Shared) (H:Hp) (E:XK),Room k (A.deeper (envOfC qual (zx st) s.heap.objs.size f cdv))→
   zW (zK (XT P w) P w K mg base ["self","name"] qual (zx st) f cdv A outer s H E) (zcn st) (tSeq (zrd (znu K (zpg (tVar 0) (zpg (tF2 (tC (.str w0)) (tFmt (tVar 1))) tNil)))) (znz K (tVar 0) (tVar 1)))):
  FnOk P w K mg base (XT P w) (k+1) f fd ["self","name"] (zlo C):=by
 refine Fn.okX S (fun vs H Q E h=>?_) fun cdv A outer s H vs Q E hr h=>⟨_,hb cdv A outer s H E hr,?_⟩
 ·obtain ⟨_,_,rfl,_⟩:=h;rfl
 ·obtain ⟨a,z,rfl,hz,ea,q⟩:=h
  have s0:(start ["self","name"] [V.ref a,V.str z])[0]? =some (some (V.ref a)):=rfl
  have s1:(start ["self","name"] [V.ref a,V.str z])[1]? =some (some (V.str z)):=rfl
  refine ⟨_,s0,w0,rfl,hw,.str z,s1,.inr ⟨z,rfl,by omega,z,rfl,hz,a,C,none,_,rfl,ea,c.it,c.sv,?_⟩⟩
  refine ⟨.str z,s1,.ref a,s0,a,C,z,rfl,rfl,zX,c.toExN,fun d hd=>?_⟩
  rw [zjh]
  exact q d (by rw [←hd,zv (fun y=>by rw [y,zX] at hd;cases hd)])
end L2
namespace L3
open PySem PySem.Spec PyProof.Rows L2
section
variable {X:Cx} {κ:Kx} {E:XK} {F F1 F2 F':Fr} {σ σ':L2.St} {H H1 H2 H':Hp} {Q:VK} {p:Addr} {e a b o:Expr} {es:List Expr} {pos apos np cpos hp:Pos} {i:Nat} {D:Ends}
def zf2 (c:Str) (t:A3):D3:=fun s h=>(t s h).bindS fun fs h1=>match fs with
 | [.x (.str z)]=>if z.length≤10000 then .ex ⟨c,some (.str z)⟩ h1 else .no
 | _=> .no
theorem zsm {H:Hp} {a d:Addr} {u v:HO} (ha:H a=none) (hd:d≠a):fg (zi (zi H a u) d v) a=zi H d v:=by
 funext b
 by_cases hb:b=a
 ·subst hb;rw [zft,zv (Ne.symm hd)];exact ha.symm
 ·rw [zhi hb]
  by_cases hb2:b=d
  ·subst hb2;rw [zX,zX]
  ·rw [zv hb2,zv hb,zv hb2]
theorem zjt {c x:Str} {C f:Addr} {fd:FuncData} {k:Nat} {t:A3} (hk:κ.cl c=some C) (xi:XI X.K C f) (hc:X.calm=true) (hg:Gl X x) (hm:X.mg x=some (.ref C)) (Fk:FnOk X.prog X.w X.K X.mg X.base (XT X.prog X.w) k f fd ["self","name"] (zlo C)) (hr:Room (k+1) X.A) (hb:Binds X.K fd ["self","name"] []) (hex:X.ex=[]) (hrs:zhp X E) (ha:PA X (e::es) (zw κ E t))
  (hs:starEach (e::es) X.env=(false,eval e X.env)::starEach es X.env:=by rfl) (hpl:(backTo cpos (starEach es X.env)).any (·.1)=false:=by rfl)
  (hd:(x==("__debug__" :Str))=false:=by decide):PS X (.Raise (some (.Call (.Name x np) (e::es) [] cpos)) none pos) (zj κ E (zf2 c t)):=
 qv (zko xi hc hg hm Fk hr hb hex hrs ha hs hpl hd) fun D σ H ⟨F,rel,ht,o⟩=>(bindS (K:=kA κ) rel ht o).mono fun vs H1 ⟨β1,h1,fs,e1,⟨r1,rf⟩,o1⟩=>by
  match fs,rf,o1 with
  | [.x (.str z)],rf,o1=>
   obtain ⟨v,rfl,rv⟩:=p1 rf
   cases (show Rep κ β1 F.O H1 (.str z) v from rv)
   by_cases hl:z.length≤10000
   ·simp only [if_pos hl] at o1
    refine ⟨by show 1≤1000;decide,fun a ha=>⟨a,z,rfl,hl,zX,fun d hd=>⟨rfl,some d,?_,?_⟩⟩⟩
    all_goals have nda:d≠a:=fun y=>by rw [y,zX] at hd;cases hd
    all_goals rw [zv nda] at hd
    ·rw [zv (Ne.symm nda),zX]
    ·rw [zjh,zsm ha nda]
     have r2:Rel κ (F.to β1 h1) σ (zi H1 d (.xd [(("name" :Str),V.str z)])):=r1.laid hd
     have nb:some d∉β1:=fun y=>by
      obtain ⟨j,hj⟩:=List.getElem?_of_mem y
      obtain ⟨u,hu,_⟩:=r1.heap.btr j d hj
      rw [hd] at hu;cases hu
     have no: ¬F.Oi d:=fun y=>by
      obtain ⟨u,hu,_⟩:=r1.heap.trk d (.inr (.inr y))
      rw [hd] at hu;cases hu
     exact o1 (F.to β1 h1) _ (SExt.of0 ht (e1.trans0 (yj hd))) (r2.heap.sub fun a ha=> .inr (.inr ha)) C (some d) hk ⟨z,rfl,zX,nb,no⟩
   ·simp only [if_neg hl] at o1;exact o1.elim
def eXn (c0:Str) (d:P3):E3:=fun s h=>(d s h).bind fun f h1=>match f with
 | .x (.fn c [.str z])=>if c=c0 then .ok (.v (.str z)) h1 else .no
 | _=> .no
theorem r_xn {c0:Str} {C:Addr} {d:P3} (hk:κ.cl c0=some C) (xi:ExN X.K C) (he:PE X e (zh κ E d)) (hb:attributeBase e "name" X.env (eval e X.env)=eval e X.env:=by rfl):PE X (.Attribute e "name" pos) (zg κ E (eXn c0 d)):=
 yh (zl3 he hb) fun σ H Q ⟨F,rel,o⟩=>(zN (K:=kP κ) zy rel o).mono fun v H1 ⟨β1,h1,f,e1,⟨r1,rf⟩,o1⟩=>by
  match f,rf,o1 with
  | .x (.fn c [.str z]),rf,o1=>
   by_cases hc:c=c0
   ·subst hc
    simp only [if_pos rfl] at o1
    cases (show Rep κ β1 F.O H1 (.fn c [.str z]) v from rf) with
    | @exc _ C' a dd _ hc ha nb no xd=>
     rw [hk] at hc;cases hc
     cases dd with
     | none=>cases xd
     | some d=>
      obtain ⟨z',ez,hd,_,_⟩:=xd
      cases ez
      exact ⟨a,C,d,z,rfl,ha,hd,xi,o1 β1 _ H1 Ext.refl ⟨r1,.str _⟩⟩
   ·simp only [if_neg hc] at o1;exact o1.elim
end
section
variable {X:Cx} {κ:Kx} {E:XK} {D:Ends} {σ:L2.St} {H:Hp} {e:Expr} {es:List Expr} {np cpos apos pos ipos jpos kpos kpos2:Pos}
def zfy (mt:Str→Str→Option Bool) (j:Nat) (c:Str) (f:F3) (t:A3) (hs:List Hd):D3:=fun s h=>match t s h with
 | .ok fs h1=>match vals3 fs with
  | some vs=>match f vs h1 with
   | .ok (.v (.bl true)) h2=>if j < s.length then .nx (s.set j (some (.v (.str c)))) h2 else .no
   | .ex x h2=>pick mt x s h2 hs
   | _=> .no
  | none=> .no
 | _=> .no
theorem zpi {f:F3} {t:A3} {n:Nat} {mt:Str→Str→Option Bool} {hs:List Hd} {j:Nat} {c:Str} (hf:zu f n) {Q:VK} (hQ: ∀H1,D.nx (σ.set j (some (.str c))) H1→Q (.bl true) H1) (h:zj κ E (zfy mt j c f t hs) D σ H):
  zje (zo κ n f) [] (fun cls dd H'=>trOf κ E mt hs cls dd D σ H') (zw κ E0 t) σ H Q:=by
 obtain ⟨F,rel,ht,o⟩:=h
 unfold zfy at o
 refine ⟨F,rel,?_⟩
 cases q:t F.s F.h with
 | no=>rw [q] at o;exact o.elim
 | ex x h1=>rw [q] at o;exact o.elim
 | ok fs h1=>
  rw [q] at o
  intro β1 vs H1 e1 ⟨r1,rf⟩
  cases q2:vals3 fs with
  | none=>simp only [q2] at o;exact o.elim
  | some xs=>
   simp only [q2] at o
   have hr:=zc9 rf q2
   rw [List.append_nil]
   refine ⟨F.O,β1,xs,h1,?_,r1.heap,hr,?_⟩
   ·refine Classical.byContradiction fun n=>?_
    rw [hf xs h1 (by rw [hr.length];exact n)] at o
    exact o
   ·have e0:SExt F H (F.to β1 h1) H1:=SExt.of0 ht e1
    cases q3:f xs h1 with
    | no=>rw [q3] at o;exact o.elim
    | ex x h2=>
     rw [q3] at o
     intro β' H' e' rh C dd hC xd
     have r2:Rel κ ((F.to β1 h1).to β' h2) σ H':=r1.next e' rh
     exact ⟨_,x,C,r2,ht,hC,rfl,xd,SOut.move (e0.trans (SExt.of0 (h':=h2) ht e')) o⟩
    | ok r h2=>
     rw [q3] at o
     match r,o with
     | .v (.bl true),o=>
      by_cases hj:j < F.s.length
      ·simp only [if_pos hj] at o
       refine FOut.of (E:=fun cls dd H'=>trOf κ E mt hs cls dd D σ H') r1 ?_
       intro β' v H' e' p1
       have e2:SExt F H ((F.to β1 h1).to β' h2) H':=e0.trans (SExt.of0 (h':=h2) ht e')
       obtain ⟨r1,r2⟩:=p1
       cases (show Rep κ β' F.O H' (.bl true) v from r2)
       exact hQ _ (o (((F.to β1 h1).to β' h2).setV j (.str c)) _ H' (e2.trans (SExt.setN ht)) rfl rfl (r1.setV (.str _) hj))
      ·simp only [if_neg hj] at o;exact o.elim
theorem zpm {x y c:Str} {py:Pos} {f:F3} {t:A3} {k n j:Nat} {fa:Addr} {fd:FuncData} {ps:List Str} {mt:Str→Str→Option Bool} {hs:List Hd} {h₀:ExceptHandler} {hh:List ExceptHandler} {u1 u2:Nat} (hf:zu f n) (Fk:FnOk X.prog X.w X.K X.mg X.base (XT X.prog X.w) k fa fd ps (zo κ n f)) (hr:Room k X.A) (hg:Gl X x) (hm:X.mg x=some (.ref fa)) (hk:PySem.W.keepIn X.K (.ref fa)=true) (hb:Binds X.K fd ps [])
  (ha: ∀pn W,PA ((X.pinned pn).wish W) (e::es) (zw κ E0 t)) (hst:X.stack=X.env::X.outer) (hfm:X.env.frame=some X.env.locals) (hex:X.ex=[]) (hN:X.N.Nodup) (hi:X.N[j]? =some y) (hx:qh X.env.scope y) (hp:PHs X (h₀::hh) (trOf κ E mt hs))
  (hdb:(x==("__debug__" :Str))=false:=by decide) (he:starEach (e::es) X.env=(false,eval e X.env)::starEach es X.env:=by rfl) (hpl:(backTo cpos (starEach es X.env)).any (·.1)=false:=by rfl)
  (hs0:swapsWith (.Constant (.str c) u2 kpos2) (some (.Name y py)) apos.line X.env=pure false:=by rfl) (hfn:X.fn y=true∨X.env.scope.names.lookup y=some .local:=by first | exact .inl rfl | exact .inr rfl | assumption):
  PS X (.Try [.If (.Compare (.Call (.Name x np) (e::es) [] cpos) [.Is] [.Constant (.bool true) u1 kpos] jpos) [.Assign [.Name y py] (.Constant (.str c) u2 kpos2) apos] [] ipos] (h₀::hh) [] [] pos) (zj κ E (zfy mt j c f t hs)):=
 qv (zm2 (tb:=fun E' D σ H=>tIfS (zod (tOp (fun x y H Q=> ∃b,y= .bl b∧Q (.bl (decide (x= .bl b))) H) (zje (zo κ n f) [] E' (zw κ E0 t)) (tC (.bl true)))) (tAsg (tC (.str c)) (zjc j)) zrc D σ H) hst hfm hex (fun pn σ₀ E'=>PSsw (zfv (zr5 (X:=(X.pinned pn).wish (zdz X pn σ₀ E')) (zka zqf (zj1 (X:=(X.pinned pn).wish (zdz X pn σ₀ E')) Fk hr hg hm hk hb .nil zrf (ha pn _) hdb he hpl) zq6 (yA _)) (zfv (zns (X:=(X.pinned pn).wish (zdz X pn σ₀ E')) hN hi hx zjm hs0 hfn)) zjw)) fun D σ H h=>h) hp) fun D σ H h=>zpi hf (fun H1 q=>⟨true,rfl,true,by simp,q⟩) h
end
section
variable {X:Cx} {κ:Kx}
theorem zsn {K:PySem.W.Frag} {C:Addr} (z:ExK K C):PySem.W.kitOne K (.ref C) (.type "ValueError")=some true:=by
 unfold PySem.W.kitOne PySem.W.kitCls
 have e1:(Value.ref C==Value.type "ValueError")=false:=rfl
 have e2:PySem.W.kitMeta "ValueError" =true:=by decide+kernel
 simp only [e1,e2,if_true,z.sw]
 rfl
def bIsV (mt:Str→Str→Option Bool):FB:=fun s h fs=>match fs with
 | [.x (.fn c _),.x (.ty "ValueError")]=>(mt c c).map fun _=> .v (.bl true)
 | _=>none
abbrev rIsV (κ:Kx):List V→Hp→VK→Prop:=fun xs H Q=> ∃a C dd,xs=[.ref a,.ty "ValueError"]∧H a=some (yd a (.ref C) dd)∧ExK κ.K C∧Q (.bl true) H
theorem zp1 {mt:Str→Str→Option Bool} (ok:IsOk κ mt):qs κ (rIsV κ) (bIsV mt):=fun F σ H fs z vs Q rel r e k=>by
 unfold bIsV at e
 split at e
 ·rename_i c gs
  obtain ⟨v,w,rfl,rv,rw'⟩:=p2 r
  cases q:mt c c with
  | none=>rw [q] at e;cases e
  | some b=>
   rw [q] at e;cases e
   cases (show Rep κ F.β F.O H (.fn c gs) v from rv) with
   | @exc _ C a dd _ hc ha _ _ _=>
    cases (show Rep κ F.β F.O H (.ty "ValueError") w from rw')
    obtain ⟨h1,_⟩:=ok c c C C b hc hc q
    exact ⟨a,C,dd,rfl,ha,h1,k _ H Ext.refl ⟨rel,.bl _⟩⟩
 ·cases e
theorem zly (hK:X.K=κ.K):yF X (.builtin "isinstance") (rIsV κ):=by
 intro pins s σ H xs us Q I r h
 obtain ⟨a,C,dd,rfl,ha,z,q⟩:=h
 obtain ⟨u,v,rfl,rx,ry⟩:=zl7 r
 cases rx;cases ry
 rw [←hK] at z
 exact zfb z I ha (zsn z) fun tk=>⟨.bl true,H,I.tok tk,rfl,q⟩
abbrev rLeS:R2:=fun x y H Q=> ∃i j:Str,x= .str i∧y= .str j∧Q (.bl (!decide (j.cps.toList < i.cps.toList))) H
theorem zih:OpR X (compareOp .LtE) rLeS:=by
 intro pins s σ H x y v u Q I rx ry h
 obtain ⟨i,j,rfl,rfl,q⟩:=h
 obtain ⟨t,rfl⟩:=rx
 obtain ⟨t',rfl⟩:=ry
 exact PySem.P.le_str ⟨.bl _,H,I,rfl,q⟩
def zZ:F2:=fun _ _ x y=>match x,y with
 | .x (.str i),.x (.str j)=>some (.v (.bl (!decide (j.cps.toList < i.cps.toList))))
 | _,_=>none
theorem zfz:OpSim κ rLeS zZ:=fun F σ H x y z v w Q rel rx ry e k=>by
 unfold zZ at e
 split at e
 ·rename_i i j
  cases e
  cases (show Rep κ F.β F.O H (.str i) v from rx)
  cases (show Rep κ F.β F.O H (.str j) w from ry)
  exact ⟨i,j,rfl,rfl,k _ H Ext.refl ⟨rel,.bl _⟩⟩
 ·cases e
end
end L3
namespace L2
open PySem PySem.Spec PyProof.Rows
structure FnOkS (P:Program) (w:World) (K:PySem.W.Frag) (mg:Str→Option Value) (base:Heap) (k:Nat) (f:Addr) (fd:FuncData) (ps:List Str) (sp:Sp) (E:XK):Prop where
 len: ∀vs H Q E,sp vs H Q E→vs.length=ps.length
 run: ∀(A:Around) (outer:List Env) (s:Shared) (H:Hp) (args:Args) (us:List Value) (vs:List V) (Q:VK) (ev:Value),Room k A→Env0 P w K mg base A outer s H→BindsTo s fd args (ps.zip us)→Vals vs us→sp vs H Q E→
  codeAny (model P w) (A.mark (some ev)) (.call (.ref f) args) (fun r s'=>match r with | .ok (.ret u)=>CE outer P w H s Q u s' | _=>False) s
theorem Fun.okS {P:Program} {w:World} {K:PySem.W.Frag} {mg:Str→Option Value} {base:Heap} {x qual:Str} {st:Stmt} {f:Addr} {fd:FuncData} {N ps:List Str} {k:Nat} {sp:Sp} {E:XK} (F:Fun K x qual st f fd) (S:FnScope N ps (zx st)) (len: ∀vs H Q E,sp vs H Q E→vs.length=ps.length)
  (hbody: ∀(cdv:Value) (A:Around) (outer:List Env) (s:Shared) (H:Hp) (vs:List V) (Q:VK) (ev:Value),Room k (A.deeper (envOfC qual (zx st) s.heap.objs.size f cdv))→sp vs H Q E→
   ∃t,zW (((zK (XT P w) P w K mg base N qual (zx st) f cdv A outer s H E).suite ev).wish z6) (zcn st) t∧t {nx:=fun _ H'=>Q .non H',rt:=Q} (start N vs) H):FnOkS P w K mg base (k+1) f fd ps sp E:=by
 obtain ⟨oc,od,kV,doc,pm,an,cdv,ct,osl,rfl,lk,hcd⟩:=F.ex
 refine ⟨len,fun A outer s H args us vs Q ev hr e0 hb r hsp=>?_⟩
 have hl:=len _ _ _ _ hsp
 have KX:K.In s.heap:=e0.mod.kin.keeps fun b o e=>(e0.bs b o e).1
 have lim:s.heap.NoLimit:=e0.mod.nolimit.keeps fun b o e=>(e0.bs b o e).1
 have hkind: ∀y∈ps.zip us,(zx st).names.lookup y.1=some .local∨((zx st).names.lookup y.1=some .cell∧((cellsFrom (s.heap.objs.size+1) (zx st).names []).lookup y.1).isSome=true):=fun ⟨n,v⟩ hy=>by
  rcases S.par n (List.of_mem_zip hy).1 with q | q
  ·exact .inl q
  ·exact .inr ⟨q,PySem.W.cellsFrom_some _ _ _ (.inl q)⟩
 refine codeAny_call_function (show (A.mark (some ev)).depth < _ from hr.depth) (KX _ _ lk) rfl S.co S.gen rfl (PySem.W.codeRec_of KX hcd) (hb _ _ _ _ ?_)
 refine wpAny_newFunctionEnv_cells S.kind hkind fun env he s1 x=>?_
 subst he
 refine ⟨lim.keeps x.toInCall.keep,codeAny_func ?_⟩
 obtain ⟨t,ht,hq⟩:=hbody cdv A outer s H vs Q ev (hr.deeper _) hsp
 have I0:Inv (zK (XT P w) P w K mg base N qual (zx st) f cdv A outer s H E) [] (start N vs) H s1:=zg8 S hr.hd e0 hl r x
 have I:=(I0.suite ev).wish z6
 refine wpAny_mono (ht [] s1 (start N vs) H _ I hq) (fun fl s' hs=>?_) fun e s' hs=>hs.elim
 have fin: ∀{σ':St} {H':Hp} {v:V} {u:Value},Inv (((zK (XT P w) P w K mg base N qual (zx st) f cdv A outer s H E).suite ev).wish z6) [] σ' H' s'→RelV v u→Q v H'→CE outer P w H s Q u s':=
  fun {σ' H' v u} J rv q=>by
   have J:=Inv.unsuite I0.ok.hd J.unwish
   exact ⟨v,H',J.os,J.bare,J.base,J.hok,rv,q⟩
 cases fl with
 | ret u=>
  obtain ⟨v,σ',H',J,rv,q⟩:=hs
  exact fin J rv q
 | next=>
  obtain ⟨σ',H',J,q⟩:=hs
  exact fin (v:=V.non) (u:=Value.none) J rfl q
 | brk=>
  obtain ⟨_,_,_,q⟩:=hs
  exact False.elim q
 | cont=>
  obtain ⟨_,_,_,q⟩:=hs
  exact False.elim q
section
variable {X:Cx} {k:Nat} {f:Addr} {fd:FuncData} {ps:List Str} {sp:Sp} {E:XK} {x:Str} {p pos:Pos} {e:Expr} {es:List Expr} {t:TA} {ev:Value}
theorem zmm (F:FnOkS X.prog X.w X.K X.mg X.base k f fd ps sp E) (hr:Room k X.A) (hg:Gl X x) (hm:X.mg x=some (.ref f)) (hk:PySem.W.keepIn X.K (.ref f)=true) (hb:Binds X.K fd ps [])
  (ha:PA ((X.suite ev).wish z6) (e::es) t) (hdb:(x==("__debug__" :Str))=false:=by decide) (he:starEach (e::es) X.env=(false,eval e X.env)::starEach es X.env:=by rfl) (hpl:(backTo pos (starEach es X.env)).any (·.1)=false:=by rfl):
  PE ((X.suite ev).wish z6) (.Call (.Name x p) (e::es) [] pos) (zje sp [] E t):=by
 intro pins s σ H Q I h
 refine wpAny_Call_Name_kw (zc1 (X:=(X.suite ev).wish z6) I hg hm ?_ hdb)
 refine PySem.W.callWith_K (h₀:=X.base) I.ok.mod.kin hk (zk (ha pos pins s σ H _ I h) fun us s1 ⟨vs,H1,I1,r,q⟩=>⟨I1.kIn,?_⟩) he hpl
 have J:=Inv.unsuite (fun _=>hr.hd) I1.unwish
 have q:sp (vs++[]) H1 Q E:=q
 rw [List.append_nil] at q
 have hl:us.length=ps.length:=by rw [←r.length];exact F.len _ _ _ _ q
 refine wpAny_call (codeAny_mono (F.run X.A X.stack s1 H1 ⟨us,[]⟩ us vs Q ev hr J.env0 (by have:=hb s1 us J.kIn (by rw [List.append_nil];exact hl);rwa [List.append_nil] at this) r q) fun r' s' hq=>?_)
 match r',hq with
 | .error e,hq=>exact hq.elim
 | .ok (.ret u),hq=>exact I1.after hq
 | .ok .next,hq=>exact False.elim hq
 | .ok .brk,hq=>exact False.elim hq
 | .ok .cont,hq=>exact False.elim hq
end
end L2
namespace L3
open PySem PySem.Spec PyProof.Rows L2
section
variable {X:Cx} {κ:Kx} {np pos:Pos} {e:Expr} {ev:Value}
theorem zj9 {x:Str} {es:List Expr} {f:F3} {t:A3} {k:Nat} {fa:Addr} {fd:FuncData} {ps:List Str} {n:Nat} (hf:zu f n) (Fk:FnOkS X.prog X.w X.K X.mg X.base k fa fd ps (zo κ n f) E0) (hr:Room k X.A) (hg:Gl X x) (hm:X.mg x=some (.ref fa)) (hk:PySem.W.keepIn X.K (.ref fa)=true) (hb:L2.Binds X.K fd ps [])
 (ha:PA ((X.suite ev).wish z6) (e::es) (zw κ E0 t)) (hdb:(x==("__debug__" :Str))=false:=by decide) (he:starEach (e::es) X.env=(false,eval e X.env)::starEach es X.env:=by rfl) (hpl:(backTo pos (starEach es X.env)).any (·.1)=false:=by rfl):
 PE ((X.suite ev).wish z6) (.Call (.Name x np) (e::es) [] pos) (zg κ E0 (eCall f t)):=yh (zmm Fk hr hg hm hk hb ha hdb he hpl) fun _ _ _ h=>zli hf h
end
section
variable {κ:Kx}
def zn7:Expr→Bool
 | .Starred _ _=>true
 | _=>false
theorem zo6 {e:Expr} {es:List Expr} {env:Env} (h:zn7 e=false):starEach (e::es) env=(false,eval e env)::starEach es env:=by
 cases e <;> first | rfl | (cases h;done)
theorem z9 {X:Cx} {E:XK} {e:Expr} {es:List Expr} {d:P3} {t:A3} (ha:PE X e (zh κ E d)) (hr:PA X es (zw κ E t)) (h:zn7 e=false:=by rfl):PA X (e::es) (zw κ E (aCons d t)):=zc ha hr (zo6 h)
theorem hu9S {k:Nat} {A:Around} {ev:Value} (hr:Room k A):(A.mark (some ev)).units+9 < cLine:=by have:=hr.units;show A.units+9 < cLine;omega
theorem fn3S {P:Program} {w:World} {K:PySem.W.Frag} {mg:Str→Option Value} {base:Heap} {x qual:Str} {st:Stmt} {f:Addr} {fd:FuncData} {N ps:List Str} {k:Nat} {b:D3} (Fn:Fun K x qual st f fd) (S:FnScope N ps (zx st))
  (hb: ∀(cdv:Value) (A:Around) (outer:List Env) (s:Shared) (H:Hp) (ev:Value),Room k (A.deeper (envOfC qual (zx st) s.heap.objs.size f cdv))→
   zW (((zK (XT P w) P w K mg base N qual (zx st) f cdv A outer s H E0).suite ev).wish z6) (zcn st) (zj κ E0 b)):FnOkS P w K mg base (k+1) f fd ps (zo κ ps.length (fun3 ps.length N.length b)) E0:=by
 refine Fn.okS S (fun vs H Q E h=>?_) fun cdv A outer s H vs Q ev hr h=>⟨zj κ E0 b,hb cdv A outer s H ev hr,?_⟩
 ·obtain ⟨_,_,_,_,h,_⟩:=h;exact h
 ·obtain ⟨O,β,vs3,h3,hl,rh,rv,o⟩:=h
  have hpl:ps.length≤N.length:=by have:=congrArg List.length S.pre;rw [List.length_take] at this;omega
  have rel:=zgn (N:=N) rh rv (by omega)
  refine ⟨_,rel,rfl,?_⟩
  unfold fun3 at o
  rw [if_pos (by rw [rv.length];exact hl)] at o
  generalize hF:(⟨O,[],β,List.replicate N.length none,start3 N.length vs3,h3⟩:Fr)=F0 at rel
  have e0:F0.s=start3 N.length vs3∧F0.h=h3∧F0.β=β∧F0.Oi=O∧∀a,some a∉F0.l:=by subst hF;exact ⟨rfl,rfl,rfl,rfl,fun a=>qg⟩
  obtain ⟨es,eh,eb,eo,el⟩:=e0
  rw [es,eh]
  have ext: ∀{F':Fr} {H':Hp},SExt F0 H F' H'→Ext No β H F'.β H':=fun {F' H'} se=>⟨fun a u h n _=>se.ext.keep a u h (by rw [eb];exact n) (el a),by rw [←eb];exact se.ext.len,fun i a hi h=>by
   have:=se.ext.bet i a (by rw [eb];exact hi) h
   rw [eb] at this;exact this,se.ext.there,fun i a hi h=>se.ext.nwb i a (by rw [eb];exact hi) h⟩
  have hO: ∀{F':Fr} {H':Hp},SExt F0 H F' H'→∀a,O a→F'.O a:=fun {F' H'} se a ha=> .inr (.inr (by rw [se.oi,eo];exact ha))
  cases q:b (start3 N.length vs3) h3 with
  | nx s1 h1=>
   rw [q] at o
   exact fun F' σ' H' se _ h' r'=>o F'.β .non H' (ext se) ⟨by rw [←h'];exact r'.heap.sub (hO se),.non⟩
  | rt r h1=>
   rw [q] at o
   intro F' σ' v H' se h' p
   refine o F'.β v H' (ext se) ?_
   cases r with
   | v x=>exact ⟨by rw [←h'];exact p.1.heap.sub (hO se),Rep.sub (hO se) p.2⟩
   | m c=>
    obtain ⟨p,h1,h2,h3',h4⟩:=p
    have hs: ∀a,a=p∨O a→(F'.with p).O a:=fun a ha=>ha.elim (fun z=> .inl (by rw [z];exact List.mem_cons_self)) fun z=>Fr.O_with (hO se a z)
    refine ⟨p,h1,by rw [←h'];exact h2.heap.sub hs,h3'.sub hs,h4.elim (fun z=>absurd z (el p)) id,fun z=>h2.apart (hO se p z)⟩
  | bk s1 h1=>rw [q] at o;exact (show False from o).elim
  | ct s1 h1=>rw [q] at o;exact (show False from o).elim
  | no=>rw [q] at o;exact o
  | ex x h1=>
   rw [q] at o
   intro F' H' se r'
   have z:=o F'.β H' (ext se) (by rw [se.oi,eo] at r';exact r')
   rw [se.oi,eo];exact z
end
end L3
namespace Se
open PySem PySem.Spec PyProof.Rows
section
variable {prog:Program} {w:World} {A:Around} {E:Value→Shared→Prop} {s:Shared}
set_option maxHeartbeats 3200000 in
end
end Se
namespace My
open PySem L2 L3
def z5:List (Str×Str×Bool):=[(("TooMany" :Str),("TooMany" :Str),true),(("TooMany" :Str),("NoName" :Str),false),(("TooMany" :Str),("Twice" :Str),false),(("TooMany" :Str),("NoNumber" :Str),false),(("NoName" :Str),("TooMany" :Str),false),(("NoName" :Str),("NoName" :Str),true),(("NoName" :Str),("Twice" :Str),false),(("NoName" :Str),("NoNumber" :Str),false),(("Twice" :Str),("TooMany" :Str),false),(("Twice" :Str),("NoName" :Str),false),(("Twice" :Str),("Twice" :Str),true),(("Twice" :Str),("NoNumber" :Str),false),(("NoNumber" :Str),("TooMany" :Str),false),(("NoNumber" :Str),("NoName" :Str),false),(("NoNumber" :Str),("Twice" :Str),false),(("NoNumber" :Str),("NoNumber" :Str),true),(("TooMany" :Str),("YardError" :Str),true),(("NoName" :Str),("YardError" :Str),true),(("Twice" :Str),("YardError" :Str),true),(("NoNumber" :Str),("YardError" :Str),true)]
def zb6:D3:=(sSeq (sIf (tE (eOp oLt (pV 1) (pE (eB bLen (aCons (pV 0) aNil))))) (sRet (eOp zE (pV 0) (pV 1))) sSkip) (sRet (eC (.int 0))))
def za7:F3:=fun3 2 2 zb6
theorem ze4:zu za7 2:=zG
def zcc:D3:=(zB (yQ (aCons (pE (eB bLen (aCons (pV 0) aNil))) aNil)) (gN 1) (sSeq (sSet 2 (eChain zZ zZ (pE (eC (.str ("a" :Str)))) (pE (eOp zE (pV 0) (pV 1))) (pE (eC (.str ("z" :Str)))))) (sIf (tAnd3 (tNot3 (tP (pV 2))) (tOr3 (tE (eOp yU (pV 1) (pE (eC (.int 0))))) (tNot3 (tE (eChain zZ zZ (pE (eC (.str ("0" :Str)))) (pE (eOp zE (pV 0) (pV 1))) (pE (eC (.str ("9" :Str))))))))) (sRet (eC (.bl false))) sSkip)))
def qk:D3:=(sSeq (sIf (tOr3 (tNot3 (tE (eB bIsT (aCons (pV 0) (aCons (pE (eC (.ty "str"))) aNil))))) (tOr3 (tE (eOp oLt (pE (eB bLen (aCons (pV 0) aNil))) (pE (eC (.int 1))))) (tE (eOp oGt (pE (eB bLen (aCons (pV 0) aNil))) (pE (eC (.int 8))))))) (sRet (eC (.bl false))) sSkip) (sSeq zcc (sRet (eC (.bl true)))))
def yL:F3:=fun3 1 3 qk
theorem ze3:zu yL 1:=zG
def zan:D3:=(sRet (eAnd (eB bIsT (aCons (pV 0) (aCons (pE (eC (.ty "int"))) aNil))) (eAnd (eNot (eB bIsT (aCons (pV 0) (aCons (pE (eC (.ty "bool"))) aNil)))) (eChain oLe oLe (pV 1) (pV 0) (pV 2)))))
def yq:F3:=fun3 3 3 zan
theorem zbi:zu yq 3:=zG
def zdl:D3:=(zB (iL (pV 0)) (gT (gsCons (gN 2) (gsCons (gN 3) (gsCons (gN 4) (gsCons (gN 5) (gsCons (gN 6) gsNil)))))) (sSeq (sIf (tNot3 (tE (eCall yL (aCons (pV 2) aNil)))) (sRet (eTup (aCons (pE (eC (.str ("NoName" :Str)))) (aCons (pE (eC .non)) aNil)))) sSkip) (sSeq (sIf (tE (eOp (qj false) (pV 2) (pV 1))) (sRet (eTup (aCons (pE (eC (.str ("Twice" :Str)))) (aCons (pV 2) aNil)))) sSkip) (sSeq (sIf (tOr3 (tNot3 (tE (eCall yq (aCons (pV 3) (aCons (pE (eC (.int 0))) (aCons (pE (eOp zF (pE (eC (.int 10))) (pE (eC (.int 9))))) aNil)))))) (tNot3 (tE (eCall yq (aCons (pV 4) (aCons (pE (eNeg (pE (eC (.int 1))))) (aCons (pE (eOp zF (pE (eC (.int 10))) (pE (eC (.int 10))))) aNil))))))) (sRet (eTup (aCons (pE (eC (.str ("NoNumber" :Str)))) (aCons (pE (eC .non)) aNil)))) sSkip) (sSeq (sIf (tOr3 (tNot3 (tE (eCall yq (aCons (pV 5) (aCons (pE (eC (.int 1))) (aCons (pE (eC (.int 60))) aNil)))))) (tNot3 (tE (eCall yq (aCons (pV 6) (aCons (pE (eC (.int 1))) (aCons (pE (eC (.int 16))) aNil))))))) (sRet (eTup (aCons (pE (eC (.str ("NoNumber" :Str)))) (aCons (pE (eC .non)) aNil)))) sSkip) (sMt yJ (pV 1) (aCons (pV 2) aNil)))))))
def zdo:D3:=(sSeq (sIf (tE (eOp oGt (pE (eB bLen (aCons (pV 0) aNil))) (pE (eC (.int 12))))) (sRet (eTup (aCons (pE (eC (.str ("TooMany" :Str)))) (aCons (pE (eC .non)) aNil)))) sSkip) (sSeq (sSet 1 (eLst aNil)) (sSeq zdl (sRet (eTup (aCons (pE (eC (.str ("good" :Str)))) (aCons (pE (eC .non)) aNil)))))))
def zcs:F3:=fun3 1 7 zdo
theorem zi3:zu zcs 1:=zG
def zcw:E3:=(zgf 1 [] (iS (pV 0)) (gN 0) tTru (eOp (oInS false) (pV 0) (pE (eC (.str ("abcdefghijklmnopqrstuvwxyz0123456789" :Str))))))
def qb:D3:=(sSeq (sIf (tOr3 (tNot3 (tE (eB bIsT (aCons (pV 0) (aCons (pE (eC (.ty "str"))) aNil))))) (tNot3 (tE (eChain oLe oLe (pE (eC (.int 1))) (pE (eB bLen (aCons (pV 0) aNil))) (pE (eC (.int 8))))))) (sRet (eC (.bl false))) sSkip) (sRet (eAnd (eOp (oInS false) (pE (eOp zE (pV 0) (pE (eC (.int 0))))) (pE (eC (.str ("abcdefghijklmnopqrstuvwxyz" :Str))))) (eB (bAll fun bs=>bs.all id) (aCons (pE zcw) aNil)))))
def yC:F3:=fun3 1 1 qb
theorem zio:zu yC 1:=zG
def zd1:D3:=(sRet (eAnd (eB bIsT (aCons (pV 0) (aCons (pE (eC (.ty "int"))) aNil))) (eNot (eB bIsT (aCons (pV 0) (aCons (pE (eC (.ty "bool"))) aNil))))))
def zct:F3:=fun3 1 1 zd1
theorem zhz:zu zct 1:=zG
def zag:D3:=(sRet (eAnd (eCall zct (aCons (pV 0) aNil)) (eChain oLe oLe (pV 1) (pV 0) (pV 2))))
def yK:F3:=fun3 3 3 zag
theorem za5:zu yK 3:=zG
def zbf:D3:=(sSeq (sIf (tOr3 (tNot3 (tE (eCall yK (aCons (pV 0) (aCons (pE (eC (.int 0))) (aCons (pE (eC (.int 1000000000))) aNil)))))) (tNot3 (tE (eCall yK (aCons (pV 1) (aCons (pE (eNeg (pE (eC (.int 1))))) (aCons (pE (eC (.int 10000000000))) aNil))))))) (sRet (eC (.bl false))) sSkip) (sRet (eAnd (eCall yK (aCons (pV 2) (aCons (pE (eC (.int 1))) (aCons (pE (eC (.int 60))) aNil)))) (eCall yK (aCons (pV 3) (aCons (pE (eC (.int 1))) (aCons (pE (eC (.int 16))) aNil)))))))
def zar:F3:=fun3 4 4 zbf
theorem zc2:zu zar 4:=zG
def zcq:D3:=(zB (iL (pV 0)) (gT (gsCons (gN 2) (gsCons (gN 3) (gsCons (gN 4) (gsCons (gN 5) (gsCons (gN 6) gsNil)))))) (sSeq (sIf (tNot3 (tE (eCall yC (aCons (pV 2) aNil)))) (zds ("NoName" :Str) (aCons (pE (eC (.str ("the name of a job is no name" :Str)))) aNil)) sSkip) (sSeq (sIf (tE (eOp (qj false) (pV 2) (pV 1))) (zf2 ("Twice" :Str) (aCons (pV 2) aNil)) sSkip) (sSeq (sIf (tNot3 (tE (eCall zar (aCons (pV 3) (aCons (pV 4) (aCons (pV 5) (aCons (pV 6) aNil))))))) (zds ("NoNumber" :Str) (aCons (pE (eF3 (pE (eC (.str ("the numbers of the job " :Str)))) (pE (eFmt (pV 2))) (pE (eC (.str (" are out of bounds" :Str)))))) aNil)) sSkip) (sMt yJ (pV 1) (aCons (pV 2) aNil))))))
def zck:D3:=(sSeq (sIf (tE (eOp oGt (pE (eB bLen (aCons (pV 0) aNil))) (pE (eC (.int 12))))) (zds ("TooMany" :Str) (aCons (pE (eC (.str ("a load has at most 12 jobs" :Str)))) aNil)) sSkip) (sSeq (sSet 1 (eLst aNil)) (sSeq zcq (sRet (eC (.bl true))))))
def zax:F3:=fun3 1 7 zck
theorem zgc:zu zax 1:=zG
def zb8:D3:=(sSeq (sSet 1 (eLst aNil)) (sSeq (sIf (tE (eB (bIsE (zT z5)) (aCons (pV 0) (aCons (pE (eC (.cls ("TooMany" :Str)))) aNil)))) (sMt yJ (pV 1) (aCons (pE (eC (.str ("TooMany" :Str)))) aNil)) sSkip) (sSeq (sIf (tE (eB (bIsE (zT z5)) (aCons (pV 0) (aCons (pE (eC (.cls ("NoName" :Str)))) aNil)))) (sMt yJ (pV 1) (aCons (pE (eC (.str ("NoName" :Str)))) aNil)) sSkip) (sSeq (sIf (tE (eB (bIsE (zT z5)) (aCons (pV 0) (aCons (pE (eC (.cls ("Twice" :Str)))) aNil)))) (sMt yJ (pV 1) (aCons (pE (eC (.str ("Twice" :Str)))) aNil)) sSkip) (sSeq (sIf (tE (eB (bIsE (zT z5)) (aCons (pV 0) (aCons (pE (eC (.cls ("NoNumber" :Str)))) aNil)))) (sMt yJ (pV 1) (aCons (pE (eC (.str ("NoNumber" :Str)))) aNil)) sSkip) (sSeq (sIf (tOr3 (tE (eOp yk (pE (eB bLen (aCons (pV 1) aNil))) (pE (eC (.int 1))))) (tNot3 (tE (eB (bIsV (zT z5)) (aCons (pV 0) (aCons (pE (eC (.ty "ValueError"))) aNil)))))) (sRet (eC (.str ("none" :Str)))) sSkip) (sRet (eOp zE (pV 1) (pE (eC (.int 0)))))))))))
def qi:F3:=fun3 1 2 zb8
theorem zev:zu qi 1:=zG
def zbp:D3:=(sSeq (sSet 1 (eC (.str ("none" :Str)))) (sSeq (sSet 2 (eC .non)) (sSeq (zfy (zT z5) 1 ("good" :Str) zax (aCons (pV 0) aNil) [(("Twice" :Str),some 3,(sSeq (sSet 1 (eCall qi (aCons (pV 3) aNil))) (sSet 2 (eXn ("Twice" :Str) (pV 3))))),(("YardError" :Str),some 3,(sSet 1 (eCall qi (aCons (pV 3) aNil))))]) (sSeq (sFz 1) (sRet (eTup (aCons (pV 1) (aCons (pV 2) aNil))))))))
def yI:F3:=fun3 1 4 zbp
theorem zdk:zu yI 1:=zG
def zdi:D3:=(sSeq (sSet 2 (eOp zn (pE (eOp zl (pE (eOp zl (pV 0) (pE (eOp zC (pE (eC (.int 7919))) (pV 1))))) (pE (eC (.int 11))))) (pE (eC (.int 2147483647))))) (sSeq (sSet 2 (eOp zn (pE (eOp zC (pV 2) (pV 2))) (pE (eC (.int 2147483629))))) (sRet (eOp zn (pE (eOp zC (pV 2) (pE (eC (.int 48271))))) (pE (eC (.int 2147483647)))))))
def yu:F3:=fun3 2 3 zdi
theorem qu:zu yu 2:=zG
def zbx:D3:=(sSeq (sSet 4 (eCall yu (aCons (pV 0) (aCons (pV 1) aNil)))) (sSeq (sIf (tE (eOp yU (pE (eOp zn (pV 4) (pE (eC (.int 4))))) (pE (eC (.int 0))))) (sRet (eOp zE (pE (eLst (aCons (pV 2) (aCons (pV 3) aNil)))) (pE (eOp zn (pE (eOp oDiv (pV 4) (pE (eC (.int 4))))) (pE (eC (.int 2))))))) sSkip) (sRet (eOp zl (pV 2) (pE (eOp zn (pE (eOp zC (pV 4) (pE (eC (.int 7))))) (pE (eOp zl (pE (eOp zY (pV 3) (pV 2))) (pE (eC (.int 1)))))))))))
def zaw:F3:=fun3 4 5 zbx
theorem zb5:zu zaw 4:=zG
def zc5:D3:=(zB (yQ (aCons (pE (eOp zn (pE (eCall yu (aCons (pV 0) (aCons (pE (eC (.int 3))) aNil)))) (pE (eC (.int 4))))) aNil)) (gN 4) (sSet 3 (eOp zl (pV 3) (pE (eOp zE (pV 2) (pE (eOp zn (pE (eCall yu (aCons (pV 0) (aCons (pE (eOp zl (pE (eOp zC (pE (eC (.int 10))) (pV 1))) (pV 4))) aNil)))) (pE (eC (.int 36))))))))))
def zdy:D3:=(sSeq (sSet 2 (eC (.str ("abcdefghijklmnopqrstuvwxyz0123456789" :Str)))) (sSeq (sSet 3 (eOp zE (pV 2) (pE (eOp zn (pE (eOp zl (pE (eOp zn (pV 0) (pE (eC (.int 26))))) (pV 1))) (pE (eC (.int 26))))))) (sSeq zc5 (sRetS 3))))
def zcr:F3:=fun3 2 5 zdy
theorem zhy:zu zcr 2:=zG
def ze1:D3:=(sSeq (sSet 2 (eCall zaw (aCons (pV 0) (aCons (pE (eOp zl (pE (eOp zC (pE (eC (.int 31))) (pV 1))) (pE (eC (.int 1))))) (aCons (pE (eC (.int 0))) (aCons (pE (eOp zF (pE (eC (.int 10))) (pE (eC (.int 9))))) aNil)))))) (sSeq (sSet 3 (eCall zaw (aCons (pV 0) (aCons (pE (eOp zl (pE (eOp zC (pE (eC (.int 31))) (pV 1))) (pE (eC (.int 2))))) (aCons (pE (eNeg (pE (eC (.int 1))))) (aCons (pE (eOp zF (pE (eC (.int 10))) (pE (eC (.int 10))))) aNil)))))) (sSeq (sSet 4 (eCall zaw (aCons (pV 0) (aCons (pE (eOp zl (pE (eOp zC (pE (eC (.int 31))) (pV 1))) (pE (eC (.int 3))))) (aCons (pE (eC (.int 1))) (aCons (pE (eC (.int 60))) aNil)))))) (sSeq (sFz 4) (sSeq (sFz 3) (sSeq (sFz 2) (sRet (eTup (aCons (pE (eCall zcr (aCons (pV 0) (aCons (pV 1) aNil)))) (aCons (pV 2) (aCons (pV 3) (aCons (pV 4) (aCons (pE (eCall zaw (aCons (pV 0) (aCons (pE (eOp zl (pE (eOp zC (pE (eC (.int 31))) (pV 1))) (pE (eC (.int 4))))) (aCons (pE (eC (.int 1))) (aCons (pE (eC (.int 16))) aNil)))))) aNil)))))))))))))
def zc0:F3:=fun3 2 5 ze1
theorem ziw:zu zc0 2:=zG
def zcp:D3:=(sSeq (sSet 2 (eLst (aCons (pE (eC (.str ("" :Str)))) (aCons (pE (eC (.str ("Aa" :Str)))) (aCons (pE (eC (.str ("1a" :Str)))) (aCons (pE (eC (.str ("a_b" :Str)))) (aCons (pE (eC (.str ("abcdefghi" :Str)))) (aCons (pE (eC (.str ("a b" :Str)))) (aCons (pE (eC (.int 7))) (aCons (pE (eC .non)) (aCons (pE (eC (.bl true))) (aCons (pE (eLst (aCons (pV 1) aNil))) (aCons (pE (eTup (aCons (pV 1) aNil))) (aCons (pE (eC (.str ("a~" :Str)))) (aCons (pE eDnT) aNil))))))))))))))) (sRet (eOp zE (pV 2) (pE (eOp zn (pV 0) (pE (eB bLen (aCons (pV 2) aNil))))))))
def zbg:F3:=fun3 2 3 zcp
theorem ze0:zu zbg 2:=zG
def zbz:D3:=(sSeq (sSet 2 (eOp zE (pE (eLst (aCons (pE (eC (.int 0))) (aCons (pE (eNeg (pE (eC (.int 1))))) (aCons (pE (eC (.int 1))) (aCons (pE (eC (.int 1))) aNil)))))) (pV 1))) (sSeq (sSet 3 (eOp zE (pE (eLst (aCons (pE (eOp zF (pE (eC (.int 10))) (pE (eC (.int 9))))) (aCons (pE (eOp zF (pE (eC (.int 10))) (pE (eC (.int 10))))) (aCons (pE (eC (.int 60))) (aCons (pE (eC (.int 16))) aNil)))))) (pV 1))) (sSeq (sSet 4 (eOp zn (pE (eOp oDiv (pV 0) (pE (eC (.int 16))))) (pE (eOp zC (pE (eOp zF (pE (eC (.int 10))) (pE (eC (.int 9))))) (pE (eOp zF (pE (eC (.int 10))) (pE (eC (.int 9))))))))) (sRet (eOp zE (pE (eLst (aCons (pE (eOp zY (pV 2) (pE (eC (.int 1))))) (aCons (pE (eOp zl (pV 3) (pE (eC (.int 1))))) (aCons (pE (eOp zY (pE (eOp zY (pV 2) (pE (eC (.int 1))))) (pV 4))) (aCons (pE (eOp zl (pE (eOp zl (pV 3) (pE (eC (.int 1))))) (pV 4))) (aCons (pE (eC (.bl true))) (aCons (pE (eC (.bl false))) (aCons (pE (eC .non)) (aCons (pE (eC (.str ("7" :Str)))) (aCons (pE (eLst (aCons (pE (eC (.int 5))) aNil))) (aCons (pE (eTup (aCons (pE (eC (.int 5))) aNil))) (aCons (pE eDnT) aNil))))))))))))) (pE (eOp zn (pV 0) (pE (eC (.int 11))))))))))
def za9:F3:=fun3 2 5 zbz
theorem zd2:zu za9 2:=zG
def zc4:D3:=(sSeq (sSet 2 (eOp zn (pE (eCall yu (aCons (pV 1) (aCons (pE (eC (.int 1))) aNil)))) (pE (eB bLen (aCons (pV 0) aNil))))) (sSeq (sSet 3 (eOp zn (pE (eCall yu (aCons (pV 1) (aCons (pE (eC (.int 2))) aNil)))) (pE (eC (.int 6))))) (sSeq (sSet 4 (eOp zl (pE (eOp zC (pE (eCall yu (aCons (pV 1) (aCons (pE (eC (.int 3))) aNil)))) (pE (eC (.int 2147483629))))) (pE (eCall yu (aCons (pV 1) (aCons (pE (eC (.int 4))) aNil)))))) (sSeq (sSet 5 (eB bList (aCons (pE (eOp zE (pV 0) (pV 2))) aNil))) (sSeq (sIf (tE (eOp yU (pV 3) (pE (eC (.int 0))))) (sSeq (sFz 4) (yS (pV 5) (pE (eC (.int 0))) (eCall zbg (aCons (pV 4) (aCons (pE (eOp zE (pV 5) (pE (eC (.int 0))))) aNil))))) (sIf (tE (eOp yU (pV 3) (pE (eC (.int 1))))) (yS (pV 5) (pE (eC (.int 0))) (eOp zE (pE (eOp zE (pV 0) (pE (eOp zn (pV 4) (pE (eB bLen (aCons (pV 0) aNil))))))) (pE (eC (.int 0))))) (sSeq (sFz 4) (yS (pV 5) (pE (eOp zY (pV 3) (pE (eC (.int 1))))) (eCall za9 (aCons (pV 4) (aCons (pE (eOp zY (pV 3) (pE (eC (.int 2))))) aNil))))))) (sRet (eOp zl (pE (eOp zl (pE (eSl (pV 0) poN (qm (pV 2)))) (pE (eLst (aCons (pE (eB zk6 (aCons (pV 5) aNil))) aNil))))) (pE (eSl (pV 0) (qm (pE (eOp zl (pV 2) (pE (eC (.int 1)))))) poN)))))))))
def zbv:F3:=fun3 2 6 zc4
theorem zfx:zu zbv 2:=zG
def zeu:E3:=(zgf 1 [2] (yQ (aCons (pV 3) aNil)) (gN 0) tTru (eCall zc0 (aCons (pV 1) (aCons (pV 0) aNil))))
def zgd:D3:=(zB (iL (pE (eSl (pV 0) (qm (pE (eOp zl (pE (eC (.int 4))) (pE (eOp zC (pE (eC (.int 3))) (pV 1)))))) (qm (pE (eOp zl (pE (eOp zl (pE (eC (.int 4))) (pE (eOp zC (pE (eC (.int 3))) (pV 1))))) (pE (eOp zn (pE (eCall yu (aCons (pV 2) (aCons (pE (eC (.int 8))) aNil)))) (pE (eC (.int 4))))))))))) (gN 5) (sIf (tE (eOp yk (pV 4) (pE (eLst aNil)))) (sSeq (sFz 4) (sSet 4 (eCall zbv (aCons (pV 4) (aCons (pV 5) aNil))))) sSkip))
def zhr:D3:=(zB (yQ (aCons (pE (eC (.int 4))) aNil)) (gN 1) (sSeq (sSet 2 (eCall za7 (aCons (pV 0) (aCons (pV 1) aNil)))) (sSeq (sFz 2) (sSeq (sSet 3 (eOp zE (pE (eLst (aCons (pE (eOp zn (pE (eCall yu (aCons (pV 2) (aCons (pE (eC (.int 5))) aNil)))) (pE (eC (.int 13))))) (aCons (pE (eOp zn (pE (eCall yu (aCons (pV 2) (aCons (pE (eC (.int 6))) aNil)))) (pE (eC (.int 16))))) aNil)))) (pE (eOp zn (pE (eCall yu (aCons (pV 2) (aCons (pE (eC (.int 7))) aNil)))) (pE (eC (.int 2))))))) (sSeq (sFz 2) (sSeq (sSet 4 zeu) (sSeq (sFz 2) (sSeq zgd (sSeq (sSet 6 (eB bList (aCons (pV 4) aNil))) (sSeq (sFz 4) (sSeq (sSet 7 (eCall zcs (aCons (pV 4) aNil))) (sSeq (sFz 6) (sIf (tOr3 (tE (eOp yk (pE (eCall yI (aCons (pV 6) aNil))) (pV 7))) (tOr3 (tE (eOp yk (pV 6) (pV 4))) (tE (eOp yk (pE (eCall yI (aCons (pV 6) aNil))) (pV 7))))) (sRet (eC (.bl false))) sSkip)))))))))))))
def zou:D3:=(sSeq zhr (sRet (eOp yU (pE (eCall yI (aCons (pE (eLst aNil)) aNil))) (pE (eTup (aCons (pE (eC (.str ("good" :Str)))) (aCons (pE (eC .non)) aNil)))))))
def f_law:F3:=fun3 1 8 zou
end My
namespace My
open PySem PySem.Spec PyProof.Rows L2 L3
def yb (i:Nat):Stmt:=PySem.Challenge.pw_dueyard_k13_loads_refused.main.body.getD i (.Pass ⟨0,0,0,0⟩)
abbrev zdt:Stmt:=yb 22
theorem o0:FnScope ["_law_script","_law_k"] ["_law_script","_law_k"] (zx zdt):=zD
abbrev zdr:Stmt:=yb 30
theorem o1:FnScope ["_law_thing","_law_k","_law_small"] ["_law_thing"] (zx zdr):=zD
abbrev zc3:Stmt:=yb 31
theorem o2:FnScope ["_law_thing","_law_low","_law_high"] ["_law_thing","_law_low","_law_high"] (zx zc3):=zD
abbrev zgm:Stmt:=yb 32
theorem o3:FnScope ["_law_load","_law_known","_law_name_here","_law_first","_law_last","_law_work","_law_breadth"] ["_law_load"] (zx zgm):=zD
abbrev zex:Stmt:=yb 18
theorem o4:FnScope ["thing"] ["thing"] (zx zex):=zD
abbrev zfc:Stmt:=yb 8
theorem o5:FnScope ["thing"] ["thing"] (zx zfc):=zD
abbrev zcl:Stmt:=yb 9
theorem o6:FnScope ["thing","low","high"] ["thing","low","high"] (zx zcl):=zD
abbrev zb2:Stmt:=yb 19
theorem o7:FnScope ["first","last","work","breadth"] ["first","last","work","breadth"] (zx zb2):=zD
abbrev zeb:Stmt:=yb 20
theorem o8:FnScope ["load","names","name","first","last","work","breadth"] ["load"] (zx zeb):=zD
abbrev zfa:Stmt:=yb 33
theorem o9:FnScope ["_law_e","_law_words"] ["_law_e"] (zx zfa):=zD
abbrev zfd:Stmt:=yb 34
theorem o10:FnScope ["_law_load","_law_word","_law_name_here","_law_e"] ["_law_load"] (zx zfd):=zD
abbrev zez:Stmt:=yb 23
theorem o11:FnScope ["_law_cell","_law_k","_law_number_here"] ["_law_cell","_law_k"] (zx zez):=zD
abbrev zd9:Stmt:=yb 25
theorem o12:FnScope ["_law_cell","_law_k","_law_low","_law_high","_law_number_here"] ["_law_cell","_law_k","_law_low","_law_high"] (zx zd9):=zD
abbrev zfi:Stmt:=yb 24
theorem o13:FnScope ["_law_cell","_law_k","_law_letters","_law_word","_law_j"] ["_law_cell","_law_k"] (zx zfi):=zD
abbrev zgj:Stmt:=yb 26
theorem o14:FnScope ["_law_cell","_law_k","_law_first","_law_last","_law_work"] ["_law_cell","_law_k"] (zx zgj):=zD
abbrev zdh:Stmt:=yb 27
theorem o15:FnScope ["_law_number_here","_law_name_here","_law_bad"] ["_law_number_here","_law_name_here"] (zx zdh):=zD
abbrev zcy:Stmt:=yb 28
theorem o16:FnScope ["_law_number_here","_law_place","_law_low","_law_high","_law_far"] ["_law_number_here","_law_place"] (zx zcy):=zD
abbrev zd8:Stmt:=yb 29
theorem o17:FnScope ["_law_load","_law_cell","_law_at","_law_way","_law_number_here","_law_job_here"] ["_law_load","_law_cell"] (zx zd8):=zD
abbrev zog:Stmt:=yb 35
theorem o18:FnScope ["_law_script","_law_k","_law_cell","_law_many","_law_load","_law_spoiler","_law_handed","_law_due_here"] ["_law_script"] (zx zog):=zD
abbrev zea:Stmt:=zfq (yb 5) 0
theorem o19:FnScope ["self","name"] ["self","name"] (zx zea):=zD
structure Txt (K:PySem.W.Frag) (mg:Str→Option Value) where
 q0:Addr
 q1:FuncData
 q2:Dfn K mg "_law_cell_at" zdt ["_law_script","_law_k"] q0 q1
 q3:Addr
 q4:FuncData
 q5:Dfn K mg "_law_is_name" zdr ["_law_thing"] q3 q4
 q6:Addr
 q7:FuncData
 q8:Dfn K mg "_law_in_bounds" zc3 ["_law_thing","_law_low","_law_high"] q6 q7
 q9:Addr
 q10:FuncData
 q11:Dfn K mg "_law_due" zgm ["_law_load"] q9 q10
 q12:Addr
 q13:FuncData
 q14:Dfn K mg "is_name" zex ["thing"] q12 q13
 q15:Addr
 q16:FuncData
 q17:Dfn K mg "is_whole" zfc ["thing"] q15 q16
 q18:Addr
 q19:FuncData
 q20:Dfn K mg "is_whole_between" zcl ["thing","low","high"] q18 q19
 q21:Addr
 q22:FuncData
 q23:Dfn K mg "are_numbers_of_job" zb2 ["first","last","work","breadth"] q21 q22
 q24:Addr
 q25:FuncData
 q26:Dfn K mg "check_load" zeb ["load"] q24 q25
 q27:Addr
 q28:FuncData
 q29:Dfn K mg "_law_kind" zfa ["_law_e"] q27 q28
 q30:Addr
 q31:FuncData
 q32:Dfn K mg "_law_told" zfd ["_law_load"] q30 q31
 q33:Addr
 q34:FuncData
 q35:Dfn K mg "_law_mixed" zez ["_law_cell","_law_k"] q33 q34
 q36:Addr
 q37:FuncData
 q38:Dfn K mg "_law_number" zd9 ["_law_cell","_law_k","_law_low","_law_high"] q36 q37
 q39:Addr
 q40:FuncData
 q41:Dfn K mg "_law_name" zfi ["_law_cell","_law_k"] q39 q40
 q42:Addr
 q43:FuncData
 q44:Dfn K mg "_law_job" zgj ["_law_cell","_law_k"] q42 q43
 q45:Addr
 q46:FuncData
 q47:Dfn K mg "_law_bad_name" zdh ["_law_number_here","_law_name_here"] q45 q46
 q48:Addr
 q49:FuncData
 q50:Dfn K mg "_law_bad_number" zcy ["_law_number_here","_law_place"] q48 q49
 q51:Addr
 q52:FuncData
 q53:Dfn K mg "_law_spoilt" zd8 ["_law_load","_law_cell"] q51 q52
 f_law:Addr
 fd_law:FuncData
 d_law:Dfn K mg "law" zog ["_law_script"] f_law fd_law
 q54:Addr
 q55:mg "YardError" =some (.ref q54)
 q56:Addr
 q57:mg "NoName" =some (.ref q56)
 q58:Addr
 q59:mg "NoNumber" =some (.ref q58)
 q60:Addr
 q61:mg "TooMany" =some (.ref q60)
 q62:Addr
 q63:mg "Twice" =some (.ref q62)
 q64:XCl K mg "NoName" q56
 q65:ExK K q56
 q66:XCl K mg "NoNumber" q58
 q67:ExK K q58
 q68:XCl K mg "TooMany" q60
 q69:ExK K q60
 q70:Addr
 q71:FuncData
 q72:XI K q62 q70
 q73:CB K q54
 q74:Fun K "__init__" "Twice.__init__" zea q70 q71
 q75:Binds K q71 ["self","name"] []
 q76:PySem.W.exmOne K (.ref q60) (.ref q60)=some true
 q77:PySem.W.kitOne K (.ref q60) (.ref q60)=some true
 q78:PySem.W.exmOne K (.ref q60) (.ref q56)=some false
 q79:PySem.W.kitOne K (.ref q60) (.ref q56)=some false
 q80:PySem.W.exmOne K (.ref q60) (.ref q62)=some false
 q81:PySem.W.kitOne K (.ref q60) (.ref q62)=some false
 q82:PySem.W.exmOne K (.ref q60) (.ref q58)=some false
 q83:PySem.W.kitOne K (.ref q60) (.ref q58)=some false
 q84:PySem.W.exmOne K (.ref q56) (.ref q60)=some false
 q85:PySem.W.kitOne K (.ref q56) (.ref q60)=some false
 q86:PySem.W.exmOne K (.ref q56) (.ref q56)=some true
 q87:PySem.W.kitOne K (.ref q56) (.ref q56)=some true
 q88:PySem.W.exmOne K (.ref q56) (.ref q62)=some false
 q89:PySem.W.kitOne K (.ref q56) (.ref q62)=some false
 q90:PySem.W.exmOne K (.ref q56) (.ref q58)=some false
 q91:PySem.W.kitOne K (.ref q56) (.ref q58)=some false
 q92:PySem.W.exmOne K (.ref q62) (.ref q60)=some false
 q93:PySem.W.kitOne K (.ref q62) (.ref q60)=some false
 q94:PySem.W.exmOne K (.ref q62) (.ref q56)=some false
 q95:PySem.W.kitOne K (.ref q62) (.ref q56)=some false
 q96:PySem.W.exmOne K (.ref q62) (.ref q62)=some true
 q97:PySem.W.kitOne K (.ref q62) (.ref q62)=some true
 q98:PySem.W.exmOne K (.ref q62) (.ref q58)=some false
 q99:PySem.W.kitOne K (.ref q62) (.ref q58)=some false
 q100:PySem.W.exmOne K (.ref q58) (.ref q60)=some false
 q101:PySem.W.kitOne K (.ref q58) (.ref q60)=some false
 q102:PySem.W.exmOne K (.ref q58) (.ref q56)=some false
 q103:PySem.W.kitOne K (.ref q58) (.ref q56)=some false
 q104:PySem.W.exmOne K (.ref q58) (.ref q62)=some false
 q105:PySem.W.kitOne K (.ref q58) (.ref q62)=some false
 q106:PySem.W.exmOne K (.ref q58) (.ref q58)=some true
 q107:PySem.W.kitOne K (.ref q58) (.ref q58)=some true
 q108:PySem.W.exmOne K (.ref q60) (.ref q54)=some true
 q109:PySem.W.kitOne K (.ref q60) (.ref q54)=some true
 q110:PySem.W.exmOne K (.ref q56) (.ref q54)=some true
 q111:PySem.W.kitOne K (.ref q56) (.ref q54)=some true
 q112:PySem.W.exmOne K (.ref q62) (.ref q54)=some true
 q113:PySem.W.kitOne K (.ref q62) (.ref q54)=some true
 q114:PySem.W.exmOne K (.ref q58) (.ref q54)=some true
 q115:PySem.W.kitOne K (.ref q58) (.ref q54)=some true
 q116:mg "ValueError" =none
 q117:mg "all" =none
 q118:mg "bool" =none
 q119:mg "int" =none
 q120:mg "isinstance" =none
 q121:mg "len" =none
 q122:mg "list" =none
 q123:mg "range" =none
 q124:mg "str" =none
 q125:mg "tuple" =none
 q126:Tok
 q127:mg "LAST_TURN" =some (.int 10000000000 q126)
 q128:Tok
 q129:mg "LETTERS" =some (.str ("abcdefghijklmnopqrstuvwxyz" :Str) q128)
 q130:Tok
 q131:mg "LETTERS_AND_FIGURES" =some (.str ("abcdefghijklmnopqrstuvwxyz0123456789" :Str) q130)
 q132:Tok
 q133:mg "MOST_SIGNS" =some (.int 8 q132)
 q134:Tok
 q135:mg "MOST_JOBS" =some (.int 12 q134)
 q136:Tok
 q137:mg "LATEST_FIRST" =some (.int 1000000000 q136)
 q138:Tok
 q139:mg "MOST_WORK" =some (.int 60 q138)
 q140:Tok
 q141:mg "MOST_BREADTH" =some (.int 16 q140)
def kx {K:PySem.W.Frag} {mg:Str→Option Value} (T:Txt K mg):Kx:=⟨K,fun c=>([(("YardError" :Str),T.q54),(("NoName" :Str),T.q56),(("NoNumber" :Str),T.q58),(("TooMany" :Str),T.q60),(("Twice" :Str),T.q62)]:List (Str×Addr)).lookup c⟩
theorem zhm {K:PySem.W.Frag} {mg:Str→Option Value} (T:Txt K mg):MtL (kx T) z5:=(MtL.cons rfl rfl T.q76 T.q77 T.q69 (MtL.cons rfl rfl T.q78 T.q79 T.q69 (MtL.cons rfl rfl T.q80 T.q81 T.q69 (MtL.cons rfl rfl T.q82 T.q83 T.q69 (MtL.cons rfl rfl T.q84 T.q85 T.q65 (MtL.cons rfl rfl T.q86 T.q87 T.q65 (MtL.cons rfl rfl T.q88 T.q89 T.q65 (MtL.cons rfl rfl T.q90 T.q91 T.q65 (MtL.cons rfl rfl T.q92 T.q93 T.q72.toExN.toExK (MtL.cons rfl rfl T.q94 T.q95 T.q72.toExN.toExK (MtL.cons rfl rfl T.q96 T.q97 T.q72.toExN.toExK (MtL.cons rfl rfl T.q98 T.q99 T.q72.toExN.toExK (MtL.cons rfl rfl T.q100 T.q101 T.q67 (MtL.cons rfl rfl T.q102 T.q103 T.q67 (MtL.cons rfl rfl T.q104 T.q105 T.q67 (MtL.cons rfl rfl T.q106 T.q107 T.q67 (MtL.cons rfl rfl T.q108 T.q109 T.q69 (MtL.cons rfl rfl T.q110 T.q111 T.q65 (MtL.cons rfl rfl T.q112 T.q113 T.q72.toExN.toExK (MtL.cons rfl rfl T.q114 T.q115 T.q67 MtL.nil))))))))))))))))))))
section
variable {P:Program} {w:World} {K:PySem.W.Frag} {mg:Str→Option Value} {base:Heap}
theorem zgt (T:Txt K mg):FnOk P w K mg base (XT P w) 1 T.q70 T.q71 ["self","name"] (zlo T.q62):=zom (k:=0) (w0:=("two jobs have the name " :Str)) T.q72 T.q74 o19 (by decide+kernel) fun cdv A outer s H E hr=>(zij (zk0 (zlz T.q73 (by rfl) T.q55 (zhj (zgp (i:=0) rfl (Or.inl rfl)) (zhj (zta zjm (znn (zgp (i:=1) rfl (Or.inl rfl)))) znl)))) (zfv (zmw (zgp (i:=0) rfl (Or.inl rfl)) (zgp (i:=1) rfl (Or.inl rfl)))))
theorem zge (T:Txt K mg):FnOk P w K mg base (XT P w) 1 T.q0 T.q1 ["_law_script","_law_k"] (zo (kx T) 2 za7):=yx T.q2.F o0 fun cdv A outer s H E hr=>by unfold zb6;exact (zr (z8 (yz znv zql (yA _) (zd 1) (za (yv qz (qx rfl) T.q121 PySem.boot_len (zc (zd 0) zf)))) (zt (zP (w_x (zd 0) (zd 1)))) yg) (zt (zP zqb)))
theorem zf7 (T:Txt K mg):FnOk P w K mg base (XT P w) 1 T.q3 T.q4 ["_law_thing"] (zo (kx T) 1 yL):=yx T.q5.F o1 fun cdv A outer s H E hr=>by unfold qk zcc;exact (zr (z8 (PW.pt (ze5 (yM (yB (yv zd3 (zdb rfl) T.q120 PyProof.Rows.boot_isinstance (zc (zd 0) (zc (za (ya (zdm (v:= .ty "str") (by rfl) T.q124 PyProof.Rows.boot_str rfl) fun _ _ _=> .ty _)) zf))))) (ze5 (yz znv zql (yA _) (za (yv qz (qx rfl) T.q121 PySem.boot_len (zc (zd 0) zf))) ze) (zd7 (yz zkk zp0 (yA _) (za (yv qz (qx rfl) T.q121 PySem.boot_len (zc (zd 0) zf))) ze))))) (zt (zP r_bl)) yg) (zr (w_f (zdw rfl T.q123 (zc (za (yv qz (qx rfl) T.q121 PySem.boot_len (zc (zd 0) zf))) zf)) (yR 1 o1.nd) (zr (zU 2 o1.nd (zhn zfz zfz zih zih (za zS) (w_y (zd 0) (zd 1)) (za zS))) (zt (z8 (PW.pt (zse (yM (zq2 rfl (zd 2))) (zo1 (PW.pt (ze5 (yz zgq (zg1 (qo hr)) (yA _) (zd 1) ze) (zd7 (yM (zik zfz zfz zih zih (za zS) (w_y (zd 0) (zd 1)) (za zS))))))))) (zt (zP r_bl)) yg)))) (zt (zP r_bl))))
theorem zbn (T:Txt K mg):FnOk P w K mg base (XT P w) 1 T.q6 T.q7 ["_law_thing","_law_low","_law_high"] (zo (kx T) 3 yq):=yx T.q8.F o2 fun cdv A outer s H E hr=>by unfold zan;exact (zt (zP (zi9 (yv zd3 (zdb rfl) T.q120 PyProof.Rows.boot_isinstance (zc (zd 0) (zc (za (ya (zdm (v:= .ty "int") (by rfl) T.q119 PyProof.Rows.boot_int rfl) fun _ _ _=> .ty _)) zf))) (zi9 (zqd (yv zd3 (zdb rfl) T.q120 PyProof.Rows.boot_isinstance (zc (zd 0) (zc (za (ya (zdm (v:= .ty "bool") (by rfl) T.q118 PyProof.Rows.boot_bool rfl) fun _ _ _=> .ty _)) zf)))) (zjk (zhn zfl zfl ziy ziy (zd 1) (zd 0) (zd 2)))))))
theorem zkp (T:Txt K mg):FnOk P w K mg base (XT P w) 2 T.q9 T.q10 ["_law_load"] (zo (kx T) 1 zcs):=yx T.q11.F o3 fun cdv A outer s H E hr=>by unfold zdo zdl;exact (zr (z8 (yz zkk zp0 (yA _) (za (yv qz (qx rfl) T.q121 PySem.boot_len (zc (zd 0) zf))) ze) (zt (zP (qC (zc (za zS) (zc (za zfu) zf))))) yg) (zr (zU 1 o3.nd (yV zf)) (zr (w_f (w_l (zd 0)) (zne (n:=5) (znb rfl (zbr (yR 2 o3.nd) (zbr (yR 3 o3.nd) (zbr (yR 4 o3.nd) (zbr (yR 5 o3.nd) (zbr (yR 6 o3.nd) zla zbs) zbs) zbs) zbs) zbs)) (zbt (zbt (zbt (zbt (zbt zkf)))))) (zr (z8 (yM (yB (zI ze3 (zf7 T) hr T.q5 (zc (zd 2) zf)))) (zt (zP (qC (zc (za zS) (zc (za zfu) zf))))) yg) (zr (z8 (yz zn0 (znk rfl (qo hr)) (by with_unfolding_all rfl) (zd 2) (zd 1)) (zt (zP (qC (zc (za zS) (zc (zd 2) zf))))) yg) (zr (z8 (PW.pt (ze5 (yM (yB (zI zbi (zbn T) hr T.q8 (zc (zd 3) (zc ze (zc (za (zm zc8 zd6 ze ze)) zf)))))) (zd7 (yM (yB (zI zbi (zbn T) hr T.q8 (zc (zd 4) (zc (za (zm5 ze)) (zc (za (zm zc8 zd6 ze ze)) zf))))))))) (zt (zP (qC (zc (za zS) (zc (za zfu) zf))))) yg) (zr (z8 (PW.pt (ze5 (yM (yB (zI zbi (zbn T) hr T.q8 (zc (zd 5) (zc ze (zc ze zf)))))) (zd7 (yM (yB (zI zbi (zbn T) hr T.q8 (zc (zd 6) (zc ze (zc ze zf))))))))) (zt (zP (qC (zc (za zS) (zc (za zfu) zf))))) yg) (zt (zja zcu rfl PySem.F.slot_list_append PySem.F.type_list_append zcd (zd 1) (zc (zd 2) zf)))))))) (zt (zP (qC (zc (za zS) (zc (za zfu) zf))))))))
theorem zk9 (T:Txt K mg):FnOk P w K mg base (XT P w) 1 T.q12 T.q13 ["thing"] (zo (kx T) 1 yC):=yx T.q14.F o4 fun cdv A outer s H E hr=>by unfold qb zcw;exact (zr (z8 (PW.pt (ze5 (yM (yB (yv zd3 (zdb rfl) T.q120 PyProof.Rows.boot_isinstance (zc (zd 0) (zc (za (ya (zdm (v:= .ty "str") (by rfl) T.q124 PyProof.Rows.boot_str rfl) fun _ _ _=> .ty _)) zf))))) (zd7 (yM (zik zfl zfl ziy ziy ze (za (yv qz (qx rfl) T.q121 PySem.boot_len (zc (zd 0) zf))) (za (ya (qf (v:= .int 8) (by rfl) T.q133 ⟨_,rfl⟩) fun _ _ _=> .int _))))))) (zt (zP r_bl)) yg) (zt (zP (zi9 (zpa zkx zg9 (by with_unfolding_all rfl) (w_y (zd 0) ze) (za (ya (qf (v:= .str ("abcdefghijklmnopqrstuvwxyz" :Str)) (by rfl) T.q129 ⟨_,rfl⟩) fun _ _ _=> .str _))) (zjk (yv zoj (zk1 rfl rfl) T.q117 PyProof.Rows.boot_all (zc (za (zr3 (loc:=["sign"]) (free:=[]) (fr:=[]) rfl (zec (sc:=zx zex) (N:=(["thing"]:List Str)) rfl rfl (by decide+kernel)) (zsi (zd 0)) (fun _ _ _ _ _=>(w_gc 0 (["sign"]:List Str))) (fun _ _ _ _ _=>zjl) (fun _ _ _ _ _=>(zpa zkx zg9 (by with_unfolding_all rfl) (zd 0) (za (ya (qf (v:= .str ("abcdefghijklmnopqrstuvwxyz0123456789" :Str)) (by rfl) T.q131 ⟨_,rfl⟩) fun _ _ _=> .str _)))))) zf)))))))
theorem zix (T:Txt K mg):FnOk P w K mg base (XT P w) 1 T.q15 T.q16 ["thing"] (zo (kx T) 1 zct):=yx T.q17.F o5 fun cdv A outer s H E hr=>by unfold zd1;exact (zt (zP (zi9 (yv zd3 (zdb rfl) T.q120 PyProof.Rows.boot_isinstance (zc (zd 0) (zc (za (ya (zdm (v:= .ty "int") (by rfl) T.q119 PyProof.Rows.boot_int rfl) fun _ _ _=> .ty _)) zf))) (zjk (zqd (yv zd3 (zdb rfl) T.q120 PyProof.Rows.boot_isinstance (zc (zd 0) (zc (za (ya (zdm (v:= .ty "bool") (by rfl) T.q118 PyProof.Rows.boot_bool rfl) fun _ _ _=> .ty _)) zf))))))))
theorem zba (T:Txt K mg):FnOk P w K mg base (XT P w) 2 T.q18 T.q19 ["thing","low","high"] (zo (kx T) 3 yK):=yx T.q20.F o6 fun cdv A outer s H E hr=>by unfold zag;exact (zt (zP (zi9 (zI zhz (zix T) hr T.q17 (zc (zd 0) zf)) (zjk (zhn zfl zfl ziy ziy (zd 1) (zd 0) (zd 2))))))
theorem zdg (T:Txt K mg):FnOk P w K mg base (XT P w) 3 T.q21 T.q22 ["first","last","work","breadth"] (zo (kx T) 4 zar):=yx T.q23.F o7 fun cdv A outer s H E hr=>by unfold zbf;exact (zr (z8 (PW.pt (ze5 (yM (yB (zI za5 (zba T) hr T.q20 (zc (zd 0) (zc ze (zc (za (ya (qf (v:= .int 1000000000) (by rfl) T.q137 ⟨_,rfl⟩) fun _ _ _=> .int _)) zf)))))) (zd7 (yM (yB (zI za5 (zba T) hr T.q20 (zc (zd 1) (zc (za (zm5 ze)) (zc (za (ya (qf (v:= .int 10000000000) (by rfl) T.q127 ⟨_,rfl⟩) fun _ _ _=> .int _)) zf))))))))) (zt (zP r_bl)) yg) (zt (zP (zi9 (zI za5 (zba T) hr T.q20 (zc (zd 2) (zc ze (zc (za (ya (qf (v:= .int 60) (by rfl) T.q139 ⟨_,rfl⟩) fun _ _ _=> .int _)) zf)))) (zjk (zI za5 (zba T) hr T.q20 (zc (zd 3) (zc ze (zc (za (ya (qf (v:= .int 16) (by rfl) T.q141 ⟨_,rfl⟩) fun _ _ _=> .int _)) zf)))))))))
theorem zgo (T:Txt K mg):FnOk P w K mg base (XT P w) 4 T.q24 T.q25 ["load"] (zo (kx T) 1 zax):=yx T.q26.F o8 fun cdv A outer s H E hr=>by unfold zck zcq;exact (zr (z8 (yz zkk zp0 (yA _) (za (yv qz (qx rfl) T.q121 PySem.boot_len (zc (zd 0) zf))) (za (ya (qf (v:= .int 12) (by rfl) T.q135 ⟨_,rfl⟩) fun _ _ _=> .int _))) (zt (zfr rfl T.q68 rfl (by rfl) zk3 (zc (za zS) zf))) yg) (zr (zU 1 o8.nd (yV zf)) (zr (w_f (w_l (zd 0)) (zne (n:=5) (znb rfl (zbr (yR 2 o8.nd) (zbr (yR 3 o8.nd) (zbr (yR 4 o8.nd) (zbr (yR 5 o8.nd) (zbr (yR 6 o8.nd) zla zbs) zbs) zbs) zbs) zbs)) (zbt (zbt (zbt (zbt (zbt zkf)))))) (zr (z8 (yM (yB (zI zio (zk9 T) hr T.q14 (zc (zd 2) zf)))) (zt (zfr rfl T.q64 rfl (by rfl) zk3 (zc (za zS) zf))) yg) (zr (z8 (yz zn0 (znk rfl (qo hr)) (by with_unfolding_all rfl) (zd 2) (zd 1)) (zt (zjt rfl T.q72 rfl (by rfl) T.q63 (zgt T) (hr.mono (by decide)) T.q75 rfl zr0 (zc (zd 2) zf))) yg) (zr (z8 (yM (yB (zI zc2 (zdg T) hr T.q23 (zc (zd 3) (zc (zd 4) (zc (zd 5) (zc (zd 6) zf))))))) (zt (zfr rfl T.q66 rfl (by rfl) zk3 (zc (za (r_f3 (za zS) (za (zsr (zd 2))) (za zS))) zf))) yg) (zt (zja zcu rfl PySem.F.slot_list_append PySem.F.type_list_append zcd (zd 1) (zc (zd 2) zf))))))) (zt (zP r_bl)))))
theorem zew (T:Txt K mg):FnOkS P w K mg base 1 T.q27 T.q28 ["_law_e"] (zo (kx T) 1 qi) E0:=fn3S T.q29.F o9 fun cdv A outer s H ev hr=>by unfold zb8;exact (zr (zU 1 o9.nd (yV zf)) (zr (z8 (yB (r_b (zf4 (zhm T).is) (zel rfl) (by rfl) T.q120 PyProof.Rows.boot_isinstance (zc (zd 0) (zc (za (ya (qf (v:= .ref T.q60) (by rfl) T.q61 rfl) fun _ _ _=> .cls rfl)) zf)))) (zt (zja zcu rfl PySem.F.slot_list_append PySem.F.type_list_append zcd (zd 1) (zc (za zS) zf))) yg) (zr (z8 (yB (r_b (zf4 (zhm T).is) (zel rfl) (by rfl) T.q120 PyProof.Rows.boot_isinstance (zc (zd 0) (zc (za (ya (qf (v:= .ref T.q56) (by rfl) T.q57 rfl) fun _ _ _=> .cls rfl)) zf)))) (zt (zja zcu rfl PySem.F.slot_list_append PySem.F.type_list_append zcd (zd 1) (zc (za zS) zf))) yg) (zr (z8 (yB (r_b (zf4 (zhm T).is) (zel rfl) (by rfl) T.q120 PyProof.Rows.boot_isinstance (zc (zd 0) (zc (za (ya (qf (v:= .ref T.q62) (by rfl) T.q63 rfl) fun _ _ _=> .cls rfl)) zf)))) (zt (zja zcu rfl PySem.F.slot_list_append PySem.F.type_list_append zcd (zd 1) (zc (za zS) zf))) yg) (zr (z8 (yB (r_b (zf4 (zhm T).is) (zel rfl) (by rfl) T.q120 PyProof.Rows.boot_isinstance (zc (zd 0) (zc (za (ya (qf (v:= .ref T.q58) (by rfl) T.q59 rfl) fun _ _ _=> .cls rfl)) zf)))) (zt (zja zcu rfl PySem.F.slot_list_append PySem.F.type_list_append zcd (zd 1) (zc (za zS) zf))) yg) (zr (z8 (PW.pt (ze5 (yz zg0 (zgw (hu9S hr)) (yA _) (za (yv qz (qx rfl) T.q121 PySem.boot_len (zc (zd 1) zf))) ze) (zd7 (yM (yB (r_b (zp1 (zhm T).is) (zly rfl) (by rfl) T.q120 PyProof.Rows.boot_isinstance (zc (zd 0) (zc (za (ya (zdm (v:= .ty "ValueError") (by rfl) T.q116 (by decide+kernel) rfl) fun _ _ _=> .ty _)) zf)))))))) (zt (zP zS)) yg) (zt (zP (w_x (zd 1) ze)))))))))
theorem zd5 (T:Txt K mg):FnOk P w K mg base (XT P w) 5 T.q30 T.q31 ["_law_load"] (zo (kx T) 1 yI):=yx T.q32.F o10 fun cdv A outer s H E hr=>by unfold zbp;exact (zr (zU 1 o10.nd zS) (zr (zU 2 o10.nd zfu) (zr (zpm (j:=1) zgc (zgo T) (hr.mono (by decide)) (by rfl) T.q26.g T.q26.F.kp T.q26.b (fun _ _=>(zc (zd 0) zf)) rfl rfl rfl o10.nd rfl (Or.inl rfl) (zsc (i:=3) rfl ((zhm T).ok rfl) o10.nd rfl (Or.inl rfl) rfl (by rfl) T.q63 (fun _=>(zr (zU 1 o10.nd (zj9 zev (zew T) (hr.mono (by decide)) (by rfl) T.q29.g T.q29.F.kp T.q29.b (zc (zd 3) zf))) (zt (zU 2 o10.nd (r_xn rfl T.q72.toExN (zd 3)))))) (zsc (i:=3) rfl ((zhm T).ok rfl) o10.nd rfl (Or.inl rfl) rfl (by rfl) T.q55 (fun _=>(zt (zU 1 o10.nd (zj9 zev (zew T) (hr.mono (by decide)) (by rfl) T.q29.g T.q29.F.kp T.q29.b (zc (zd 3) zf))))) zro))) (qd 1 (zt (zP (qC (zc (zd 1) (zc (zd 2) zf)))))))))
theorem qt (T:Txt K mg):FnOk P w K mg base (XT P w) 1 T.q33 T.q34 ["_law_cell","_law_k"] (zo (kx T) 2 yu):=yx T.q35.F o11 fun cdv A outer s H E hr=>by unfold zdi;exact (zr (zU 2 o11.nd (zm yp yo (za (zm ym yi (za (zm ym yi (zd 0) (za (zm y9 yX ze (zd 1))))) ze)) ze)) (zr (zU 2 o11.nd (zm yp yo (za (zm y9 yX (zd 2) (zd 2))) ze)) (zt (zP (zm yp yo (za (zm y9 yX (zd 2) ze)) ze)))))
theorem zcm (T:Txt K mg):FnOk P w K mg base (XT P w) 2 T.q36 T.q37 ["_law_cell","_law_k","_law_low","_law_high"] (zo (kx T) 4 zaw):=yx T.q38.F o12 fun cdv A outer s H E hr=>by unfold zbx;exact (zr (zU 4 o12.nd (zI qu (qt T) hr T.q35 (zc (zd 0) (zc (zd 1) zf)))) (zr (z8 (yz zgq (zg1 (qo hr)) (yA _) (za (zm yp yo (zd 4) ze)) ze) (zt (zP (w_x (za (yV (zc (zd 2) (zc (zd 3) zf)))) (za (zm yp yo (za (zm zkj zj8 (zd 4) ze)) ze))))) yg) (zt (zP (zm ym yi (zd 2) (za (zm yp yo (za (zm y9 yX (zd 4) ze)) (za (zm ym yi (za (zm zdx ze6 (zd 3) (zd 2))) ze)))))))))
theorem zi4 (T:Txt K mg):FnOk P w K mg base (XT P w) 2 T.q39 T.q40 ["_law_cell","_law_k"] (zo (kx T) 2 zcr):=yx T.q41.F o13 fun cdv A outer s H E hr=>by unfold zdy zc5;exact (zr (zU 2 o13.nd zS) (zr (zU 3 o13.nd (w_x (zd 2) (za (zm yp yo (za (zm ym yi (za (zm yp yo (zd 0) ze)) (zd 1))) ze)))) (zr (w_f (zdw rfl T.q123 (zc (za (zm yp yo (za (zI qu (qt T) hr T.q35 (zc (zd 0) (zc ze zf)))) ze)) zf)) (yR 4 o13.nd) (zt (zU 3 o13.nd (zm ym yi (zd 3) (w_y (zd 2) (za (zm yp yo (za (zI qu (qt T) hr T.q35 (zc (zd 0) (zc (za (zm ym yi (za (zm y9 yX ze (zd 1))) (zd 4))) zf)))) ze))))))) (zt (zor (pv 3))))))
theorem zlb (T:Txt K mg):FnOk P w K mg base (XT P w) 3 T.q42 T.q43 ["_law_cell","_law_k"] (zo (kx T) 2 zc0):=yx T.q44.F o14 fun cdv A outer s H E hr=>by unfold ze1;exact (zr (zU 2 o14.nd (zI zb5 (zcm T) hr T.q38 (zc (zd 0) (zc (za (zm ym yi (za (zm y9 yX ze (zd 1))) ze)) (zc ze (zc (za (zm zc8 zd6 ze ze)) zf)))))) (zr (zU 3 o14.nd (zI zb5 (zcm T) hr T.q38 (zc (zd 0) (zc (za (zm ym yi (za (zm y9 yX ze (zd 1))) ze)) (zc (za (zm5 ze)) (zc (za (zm zc8 zd6 ze ze)) zf)))))) (zr (zU 4 o14.nd (zI zb5 (zcm T) hr T.q38 (zc (zd 0) (zc (za (zm ym yi (za (zm y9 yX ze (zd 1))) ze)) (zc ze (zc ze zf)))))) (qd 4 (qd 3 (qd 2 (zt (zP (qC (zc (za (zI zhy (zi4 T) hr T.q41 (zc (zd 0) (zc (zd 1) zf)))) (zc (zd 2) (zc (zd 3) (zc (zd 4) (zc (za (zI zb5 (zcm T) hr T.q38 (zc (zd 0) (zc (za (zm ym yi (za (zm y9 yX ze (zd 1))) ze)) (zc ze (zc ze zf)))))) zf))))))))))))))
theorem ze2 (T:Txt K mg):FnOk P w K mg base (XT P w) 1 T.q45 T.q46 ["_law_number_here","_law_name_here"] (zo (kx T) 2 zbg):=yx T.q47.F o15 fun cdv A outer s H E hr=>by
 unfold zcp
 refine zr ?_ ?_
 ·refine zjp (i:=2) ?_ ?_ ?_ ?_ ?_ ?_
  ·exact o15.nd
  ·rfl
  ·exact Or.inl rfl
  ·refine yV ?_
   refine z9 ?_ ?_
   ·exact za zS
   refine z9 ?_ ?_
   ·exact za zS
   refine z9 ?_ ?_
   ·exact za zS
   refine z9 ?_ ?_
   ·exact za zS
   refine z9 ?_ ?_
   ·exact za zS
   refine z9 ?_ ?_
   ·exact za zS
   refine z9 ?_ ?_
   ·exact ze
   refine z9 ?_ ?_
   ·exact za zfu
   refine z9 ?_ ?_
   ·exact za r_bl
   refine z9 ?_ ?_
   ·exact za (yV (zc (zd 1) zf))
   refine z9 ?_ ?_
   ·exact za (qC (zc (zd 1) zf))
   refine z9 ?_ ?_
   ·exact za zS
   refine z9 ?_ ?_
   ·exact za zqi
   exact zf
  ·rfl
  ·exact .inl rfl
 ·exact zt (zP (w_x (zd 2) (za (zm yp yo (zd 0) (za (yv qz (qx rfl) T.q121 PySem.boot_len (zc (zd 2) zf)))))))
theorem zeg (T:Txt K mg):FnOk P w K mg base (XT P w) 1 T.q48 T.q49 ["_law_number_here","_law_place"] (zo (kx T) 2 za9):=yx T.q50.F o16 fun cdv A outer s H E hr=>by
 unfold zbz
 refine zr ?_ (zr ?_ (zr ?_ (zt (zP (w_x ?_ ?_)))))
 ·exact zU 2 o16.nd (w_x (za (yV (zc ze (zc (za (zm5 ze)) (zc ze (zc ze zf)))))) (zd 1))
 ·exact zU 3 o16.nd (w_x (za (yV (zc (za (zm zc8 zd6 ze ze)) (zc (za (zm zc8 zd6 ze ze)) (zc ze (zc ze zf)))))) (zd 1))
 ·exact zU 4 o16.nd (zm yp yo (za (zm zkj zj8 (zd 0) ze)) (za (zm y9 yX (za (zm zc8 zd6 ze ze)) (za (zm zc8 zd6 ze ze)))))
 ·refine za ?_
  refine yV ?_
  refine z9 ?_ ?_
  ·exact za (zm zdx ze6 (zd 2) ze)
  refine z9 ?_ ?_
  ·exact za (zm ym yi (zd 3) ze)
  refine z9 ?_ ?_
  ·exact za (zm zdx ze6 (za (zm zdx ze6 (zd 2) ze)) (zd 4))
  refine z9 ?_ ?_
  ·exact za (zm ym yi (za (zm ym yi (zd 3) ze)) (zd 4))
  refine z9 ?_ ?_
  ·exact za r_bl
  refine z9 ?_ ?_
  ·exact za r_bl
  refine z9 ?_ ?_
  ·exact za zfu
  refine z9 ?_ ?_
  ·exact za zS
  refine z9 ?_ ?_
  ·exact za (yV (zc ze zf))
  refine z9 ?_ ?_
  ·exact za (qC (zc ze zf))
  refine z9 ?_ ?_
  ·exact za zqi
  exact zf
 ·exact za (zm yp yo (zd 0) ze)
theorem zgv (T:Txt K mg):FnOk P w K mg base (XT P w) 2 T.q51 T.q52 ["_law_load","_law_cell"] (zo (kx T) 2 zbv):=yx T.q53.F o17 fun cdv A outer s H E hr=>by unfold zc4;exact (zr (zU 2 o17.nd (zm yp yo (za (zI qu (qt T) hr T.q35 (zc (zd 1) (zc ze zf)))) (za (yv qz (qx rfl) T.q121 PySem.boot_len (zc (zd 0) zf))))) (zr (zU 3 o17.nd (zm yp yo (za (zI qu (qt T) hr T.q35 (zc (zd 1) (zc ze zf)))) ze)) (zr (zU 4 o17.nd (zm ym yi (za (zm y9 yX (za (zI qu (qt T) hr T.q35 (zc (zd 1) (zc ze zf)))) ze)) (za (zI qu (qt T) hr T.q35 (zc (zd 1) (zc ze zf)))))) (zr (zU 5 o17.nd (r_ty zil (zfk rfl) (by rfl) T.q122 PyProof.Rows.boot_list (zc (w_y (zd 0) (zd 2)) zf))) (zr (z8 (yz zgq (zg1 (qo hr)) (yA _) (zd 3) ze) (qd 4 (zt (zgg (zI ze0 (ze2 T) hr T.q47 (zc (zd 4) (zc (w_y (zd 5) ze) zf))) (zd 5) ze fun a b c=>zlf a (zlm b c zfw)))) (zt (z8 (yz zgq (zg1 (qo hr)) (yA _) (zd 3) ze) (zt (zgg (w_x (w_y (zd 0) (za (zm yp yo (zd 4) (za (yv qz (qx rfl) T.q121 PySem.boot_len (zc (zd 0) zf)))))) ze) (zd 5) ze fun a b c=>zlf a (zlm b c zfw))) (qd 4 (zt (zgg (zI zd2 (zeg T) hr T.q50 (zc (zd 4) (zc (za (zm zdx ze6 (zd 3) ze)) zf))) (zd 5) (za (zm zdx ze6 (zd 3) ze)) fun a b c=>zlf a (zlm b c zfw))))))) (zt (zP (zm ym yi (za (zm ym yi (za (r_sl rfl (zd 0) zqz (zm3 (zd 2)))) (za (yV (zc (za (r_ty zlv (zk7 rfl) (by rfl) T.q125 PyProof.Rows.boot_tuple (zc (zd 5) zf))) zf))))) (za (r_sl rfl (zd 0) (zm3 (za (zm ym yi (zd 2) ze))) zqz))))))))))
theorem G_law (T:Txt K mg):FnOk P w K mg base (XT P w) 6 T.f_law T.fd_law ["_law_script"] (zo (kx T) 1 f_law):=yx T.d_law.F o18 fun cdv A outer s H E hr=>by unfold zou zhr zgd zeu;exact (zr (w_f (zdw rfl T.q123 (zc ze zf)) (yR 1 o18.nd) (zr (zjp (i:=2) o18.nd rfl (Or.inr rfl) (zI ze4 (zge T) hr T.q2 (zc (zd 0) (zc (zd 1) zf)))) (qd 2 (zr (zU 3 o18.nd (w_x (za (yV (zc (za (zm yp yo (za (zI qu (qt T) hr T.q35 (zc (zd 2) (zc ze zf)))) ze)) (zc (za (zm yp yo (za (zI qu (qt T) hr T.q35 (zc (zd 2) (zc ze zf)))) ze)) zf)))) (za (zm yp yo (za (zI qu (qt T) hr T.q35 (zc (zd 2) (zc ze zf)))) ze)))) (qd 2 (zr (zir (i:=4) o18.nd rfl (by rfl) (loc:=["_law_j"]) (free:=["_law_cell"]) (fr:=[2]) rfl (zec (sc:=zx zog) (N:=(["_law_script","_law_k","_law_cell","_law_many","_law_load","_law_spoiler","_law_handed","_law_due_here"]:List Str)) rfl rfl (by decide+kernel)) (zdw rfl T.q123 (zc (zd 3) zf)) (fun _ _ _ _ _=>(w_gc 0 (["_law_j","_law_cell"]:List Str))) (fun _ _ _ _ _=>zjl) (fun _ _ _ _ _=>(znh ziw (zlb T) (hr.mono (by decide)) (by rfl) T.q44.g T.q44.F.kp T.q44.b ztn (zc (zd 1) (zc (zd 0) zf))))) (qd 2 (zr (w_f (w_l (za (r_sl rfl (zd 0) (zm3 (za (zm ym yi ze (za (zm y9 yX ze (zd 1)))))) (zm3 (za (zm ym yi (za (zm ym yi ze (za (zm y9 yX ze (zd 1))))) (za (zm yp yo (za (zI qu (qt T) hr T.q35 (zc (zd 2) (zc ze zf)))) ze)))))))) (yR 5 o18.nd) (zt (z8 (yz zg0 (zgw (qo hr)) (yA _) (zd 4) (za (yV zf))) (qd 4 (zt (zU 4 o18.nd (zI zfx (zgv T) hr T.q53 (zc (zd 4) (zc (zd 5) zf)))))) yg))) (zr (zU 6 o18.nd (r_ty zil (zfk rfl) (by rfl) T.q122 PyProof.Rows.boot_list (zc (zd 4) zf))) (qd 4 (zr (zU 7 o18.nd (zI zi3 (zkp T) hr T.q11 (zc (zd 4) zf))) (qd 6 (zt (z8 (PW.pt (ze5 (yz zg0 (zgw (qo hr)) (yA _) (za (zI zdk (zd5 T) hr T.q32 (zc (zd 6) zf))) (zd 7)) (ze5 (yz zg0 (zgw (qo hr)) (yA _) (zd 6) (zd 4)) (zd7 (yz zg0 (zgw (qo hr)) (yA _) (za (zI zdk (zd5 T) hr T.q32 (zc (zd 6) zf))) (zd 7)))))) (zt (zP r_bl)) yg)))))))))))))) (zt (zP (zpa zgq (zg1 (qo hr)) (yA _) (za (zI zdk (zd5 T) hr T.q32 (zc (za (yV zf)) zf))) (za (qC (zc (za zS) (zc (za zfu) zf))))))))
end
end My
def PySem.W.Fast.tw14598715356260435866:Nat:=0
def PySem.W.Fast.tw7238046018651277534:Nat:=0
def PySem.W.Fast.tw6534874000650894987:Nat:=0
def PySem.W.Fast.tw10544295344006241723:Nat:=0
def PySem.W.Fast.tw3182386257043530798:Nat:=0
def PySem.W.Fast.tw12329155263669439519:Nat:=0
def PySem.W.Fast.tw3677632882827384062:Nat:=0
def PySem.W.Fast.tw13388153557339397715:Nat:=0
def PySem.W.Fast.tw16205993139258394665:Nat:=0
def PySem.W.Fast.tw12186927737360925045:Nat:=0
def PySem.W.Fast.tw13256641116850012859:Nat:=0
def PySem.W.Fast.tw4069818745696331118:Nat:=0
def PySem.W.Fast.tw12309487429465621764:Nat:=0
def PySem.W.Fast.tw10594365738534580157:Nat:=0
def PySem.W.Fast.tw1319192029097868252:Nat:=0
def PySem.W.Fast.tw10178460254095656201:Nat:=0
def PySem.W.Fast.tw17846797487192150033:Nat:=0
def PySem.W.Fast.tw12196925527506493495:Nat:=0
def PySem.W.Fast.tw8565733149115213228:Nat:=0
def PySem.W.Fast.tw6667695353286145696:Nat:=0
def PySem.W.Fast.tw11488531227469871684:Nat:=0
def PySem.W.Fast.tw5822829993140332335:Nat:=0
def PySem.W.Fast.tw1992449075930466090:Nat:=0
def PySem.W.Fast.tw5262731503136342451:Nat:=0
def PySem.W.Fast.tw5173889594236819067:Nat:=0
def PySem.W.Fast.tw10531621347620151403:Nat:=0
def PySem.W.Fast.tw12411216588197505872:Nat:=0
def PySem.W.Fast.tw17495155262278756735:Nat:=0
def PySem.W.Fast.tw8988036822726370258:Nat:=0
def PySem.W.Fast.tw3510150404263062150:Nat:=0
def PySem.W.Fast.tw17754248650196429969:Nat:=0
def PySem.W.Fast.tw16950923246603655392:Nat:=0
namespace My
open PySem PySem.W L2 L3
def ask:L4.Ask where
 law:=35
 at_:=[2,3,15,22,23,24,25,28,35,36,37,40,47,48,49,52,59,60,61,64,71,73,74,76,77,78,79,80,83,85,86,88,89,90,92,93,95,96,97,100,101,102,104,105,107,108,109,111,112,114,115,116,118,119,121,122,123,125,126,128,129,130,132,133,135,136,137,139,140,142,143,144,146,147,149,150,151,153,154,156,157,158,160,161,163,164,165,167,168,170,171,172,174,175,177,178,179,181,182,184,185,186,188,189,191,192,193,195,196,198,199,200,202,203,205,206,207,210,211]
 defs:=[("_law_cell_at",22),("_law_is_name",30),("_law_in_bounds",31),("_law_due",32),("is_name",18),("is_whole",8),("is_whole_between",9),("are_numbers_of_job",19),("check_load",20),("_law_kind",33),("_law_told",34),("_law_mixed",23),("_law_number",25),("_law_name",24),("_law_job",26),("_law_bad_name",27),("_law_bad_number",28),("_law_spoilt",29),("law",35)]
 cls:=[]
 bare:=["ValueError","all","bool","int","isinstance","len","list","range","str","tuple"]
 con:=[("LAST_TURN",.int 10000000000),("LETTERS",.str ("abcdefghijklmnopqrstuvwxyz" :Str)),("LETTERS_AND_FIGURES",.str ("abcdefghijklmnopqrstuvwxyz0123456789" :Str)),("MOST_SIGNS",.int 8),("MOST_JOBS",.int 12),("LATEST_FIRST",.int 1000000000),("MOST_WORK",.int 60),("MOST_BREADTH",.int 16)]
 exc:=[("YardError",false),("NoName",true),("NoNumber",true),("TooMany",true),("Twice",false)]
 tab:=[("TooMany","TooMany",true),("TooMany","NoName",false),("TooMany","Twice",false),("TooMany","NoNumber",false),("NoName","TooMany",false),("NoName","NoName",true),("NoName","Twice",false),("NoName","NoNumber",false),("Twice","TooMany",false),("Twice","NoName",false),("Twice","Twice",true),("Twice","NoNumber",false),("NoNumber","TooMany",false),("NoNumber","NoName",false),("NoNumber","Twice",false),("NoNumber","NoNumber",true),("TooMany","YardError",true),("NoName","YardError",true),("Twice","YardError",true),("NoNumber","YardError",true)]
 exi:=[("Twice","YardError",5,"Twice.__init__",0)]
end My
lay_quick L4.claim L4.goal
open PySem PySem.W in
theorem My.one1: ∀(w:World) (os:OsState),PySem.W.Fast.tw6268680626415656479 My.ask 20000 PySem.Challenge.pw_dueyard_k13_loads_refused w os=PySem.W.Fast.tw12952061662341455360 My.ask PySem.Challenge.pw_dueyard_k13_loads_refused:=by
 intro w os
 kernel_rfl
open PySem PySem.W in
theorem My.one: ∀(w:World) (os:OsState),L4.claim My.ask 20000 PySem.Challenge.pw_dueyard_k13_loads_refused w os=L4.goal My.ask PySem.Challenge.pw_dueyard_k13_loads_refused:=by
 rw [PySem.W.Fast.te6268680626415656479,PySem.W.Fast.te12952061662341455360]
 exact My.one1
namespace L3
open PySem L2
theorem ev:type_of% (zb (zb (zb (zb (zb (zb @L3.fun3.eq_1 (zb @L3.start3.eq_1 @L3.sSeq.eq_1)) (zb (zb @L3.sSet.eq_1 @L3.sRet.eq_1) (zb @L3.sRetS.eq_1 @L3.sRetN.eq_1))) (zb (zb (zb @L3.sIf.eq_1 @L3.sExp.eq_1) (zb @L3.sFz.eq_1 @L3.sAug.eq_1)) (zb (zb @L3.sAsg.eq_1 @L3.sSkip.eq_1) (zb @L3.sNever.eq_1 @L3.gN.eq_1)))) (zb (zb (zb @L3.eV.eq_1 (zb @L3.eC.eq_1 @L3.pV.eq_1)) (zb (zb @L3.pE.eq_1 @L3.eOp.eq_1) (zb @L3.eNeg.eq_1 @L3.eNot.eq_1))) (zb (zb (zb @L3.eAnd.eq_1 @L3.eOr.eq_1) (zb @L3.eIf.eq_1 @L3.eChain.eq_1)) (zb (zb @L3.oEq_int @L3.oNe_int) (zb @L3.nx_ite @L3.rt_ite))))) (zb (zb (zb (zb @L3.ok_ite (zb @L3.cons_ite @L3.some_ite)) (zb (zb @L3.v_ite @L3.int_ite) (zb @L3.bl_ite @ite_self.{1}))) (zb (zb (zb @decide_eq_true_eq @and_true) (zb @true_and @and_self)) (zb (zb @L3.eTup.eq_1 @L3.eLst.eq_1) (zb @L3.aCons.eq_1 @L3.aNil.eq_1)))) (zb (zb (zb (zb @L3.eB.eq_1 @L3.isa.eq_1) (zb @L3.eCall.eq_1 @L3.tE.eq_1)) (zb (zb @L3.tP.eq_1 @L3.tTru.eq_1) (zb @L3.tAnd3.eq_1 @L3.tOr3.eq_1))) (zb (zb (zb @L3.tNot3.eq_1 @L3.mtO.eq_1) (zb @L3.at0 @L3.at1)) (zb (zb @L3.at2 @L3.at3) (zb @L3.at4 @List.map_cons.{0,0})))))) (zb (zb (zb (zb (zb @List.map_nil.{0,0} (zb @List.length_cons.{0} @List.length_nil.{0})) (zb (zb @List.cons_append.{0} @List.nil_append.{0}) (zb @List.append_nil.{0} @List.getElem?_cons_zero.{0}))) (zb (zb (zb @List.getElem?_cons_succ.{0} @List.getElem?_nil.{0}) (zb @List.set_cons_zero.{0} @List.set_cons_succ.{0})) (zb (zb @Option.map_some.{0,0} @Option.map_none.{0,0}) (zb @Option.bind_some.{0,0} @Nat.zero_add)))) (zb (zb (zb @ite_true.{1} (zb @ite_false.{1} @if_true.{1})) (zb (zb @if_false.{1} @Bool.not_true) (zb @Bool.not_false @decide_true))) (zb (zb (zb @decide_false @Bool.true_and) (zb @Bool.false_and @Bool.or_true)) (zb (zb @Bool.or_false @Bool.true_or) (zb @Bool.false_or @beq_self_eq_true.{0}))))) (zb (zb (zb (zb @or_true (zb @true_or @or_false)) (zb (zb @false_or @L3.oAdd_int) (zb @L3.oAddI_int @L3.oSub_int))) (zb (zb (zb @L3.oMul_int @L3.oDiv_int) (zb @L3.oMod_int @L3.oShr_int)) (zb (zb @L3.oPow_int @L3.oAndI_int) (zb @L3.oLt_int @L3.oLe_int)))) (zb (zb (zb (zb @L3.oGt_int @L3.oGe_int) (zb @L3.oIx_tup @L3.oIx_lst)) (zb (zb @L3.oIx_scr @L3.sMt_ap) (zb @L3.mAppend_ok @L3.sz0))) (zb (zb (zb @L3.sz1 @L3.sz2) (zb @L3.sz3 @L3.sz4)) (zb (zb @L3.sz5 @L3.gb.eq_1) (zb @Int.cast_ofNat_Int @Bool.false_eq_true))))))):=(zb (zb (zb (zb (zb (zb @L3.fun3.eq_1 (zb @L3.start3.eq_1 @L3.sSeq.eq_1)) (zb (zb @L3.sSet.eq_1 @L3.sRet.eq_1) (zb @L3.sRetS.eq_1 @L3.sRetN.eq_1))) (zb (zb (zb @L3.sIf.eq_1 @L3.sExp.eq_1) (zb @L3.sFz.eq_1 @L3.sAug.eq_1)) (zb (zb @L3.sAsg.eq_1 @L3.sSkip.eq_1) (zb @L3.sNever.eq_1 @L3.gN.eq_1)))) (zb (zb (zb @L3.eV.eq_1 (zb @L3.eC.eq_1 @L3.pV.eq_1)) (zb (zb @L3.pE.eq_1 @L3.eOp.eq_1) (zb @L3.eNeg.eq_1 @L3.eNot.eq_1))) (zb (zb (zb @L3.eAnd.eq_1 @L3.eOr.eq_1) (zb @L3.eIf.eq_1 @L3.eChain.eq_1)) (zb (zb @L3.oEq_int @L3.oNe_int) (zb @L3.nx_ite @L3.rt_ite))))) (zb (zb (zb (zb @L3.ok_ite (zb @L3.cons_ite @L3.some_ite)) (zb (zb @L3.v_ite @L3.int_ite) (zb @L3.bl_ite @ite_self.{1}))) (zb (zb (zb @decide_eq_true_eq @and_true) (zb @true_and @and_self)) (zb (zb @L3.eTup.eq_1 @L3.eLst.eq_1) (zb @L3.aCons.eq_1 @L3.aNil.eq_1)))) (zb (zb (zb (zb @L3.eB.eq_1 @L3.isa.eq_1) (zb @L3.eCall.eq_1 @L3.tE.eq_1)) (zb (zb @L3.tP.eq_1 @L3.tTru.eq_1) (zb @L3.tAnd3.eq_1 @L3.tOr3.eq_1))) (zb (zb (zb @L3.tNot3.eq_1 @L3.mtO.eq_1) (zb @L3.at0 @L3.at1)) (zb (zb @L3.at2 @L3.at3) (zb @L3.at4 @List.map_cons.{0,0})))))) (zb (zb (zb (zb (zb @List.map_nil.{0,0} (zb @List.length_cons.{0} @List.length_nil.{0})) (zb (zb @List.cons_append.{0} @List.nil_append.{0}) (zb @List.append_nil.{0} @List.getElem?_cons_zero.{0}))) (zb (zb (zb @List.getElem?_cons_succ.{0} @List.getElem?_nil.{0}) (zb @List.set_cons_zero.{0} @List.set_cons_succ.{0})) (zb (zb @Option.map_some.{0,0} @Option.map_none.{0,0}) (zb @Option.bind_some.{0,0} @Nat.zero_add)))) (zb (zb (zb @ite_true.{1} (zb @ite_false.{1} @if_true.{1})) (zb (zb @if_false.{1} @Bool.not_true) (zb @Bool.not_false @decide_true))) (zb (zb (zb @decide_false @Bool.true_and) (zb @Bool.false_and @Bool.or_true)) (zb (zb @Bool.or_false @Bool.true_or) (zb @Bool.false_or @beq_self_eq_true.{0}))))) (zb (zb (zb (zb @or_true (zb @true_or @or_false)) (zb (zb @false_or @L3.oAdd_int) (zb @L3.oAddI_int @L3.oSub_int))) (zb (zb (zb @L3.oMul_int @L3.oDiv_int) (zb @L3.oMod_int @L3.oShr_int)) (zb (zb @L3.oPow_int @L3.oAndI_int) (zb @L3.oLt_int @L3.oLe_int)))) (zb (zb (zb (zb @L3.oGt_int @L3.oGe_int) (zb @L3.oIx_tup @L3.oIx_lst)) (zb (zb @L3.oIx_scr @L3.sMt_ap) (zb @L3.mAppend_ok @L3.sz0))) (zb (zb (zb @L3.sz1 @L3.sz2) (zb @L3.sz3 @L3.sz4)) (zb (zb @L3.sz5 @L3.gb.eq_1) (zb @Int.cast_ofNat_Int @Bool.false_eq_true)))))))
end L3
local macro_rules | `(tactic| simp_arith [$xs,*] $[$l]?)=> `(tactic| simp only [L3.fun3,L3.start3,L3.O3.res,L3.sSeq,L3.sSet,L3.sRet,L3.sRetS,L3.sRetN,L3.sIf,L3.sExp,L3.sFz,L3.sAug,L3.sAsg,L3.sSkip,L3.sNever,L3.gN,L3.gT,L3.gL,L3.gsCons,L3.gsNil,L3.eV,L3.eC,L3.pV,L3.pE,L3.eOp,L3.eNeg,L3.eNot,L3.eAnd,L3.eOr,L3.eIf,L3.eChain,L3.oEq_int,L3.oNe_int,L3.nx_ite,L3.rt_ite,L3.ok_ite,L3.cons_ite,L3.some_ite,L3.v_ite,L3.int_ite,L3.bl_ite,ite_self,decide_eq_true_eq,and_true,true_and,and_self,L3.oIsN,L3.eTup,L3.eLst,L3.aCons,L3.aNil,L3.vals3,L3.eB,L3.bLen,L3.bMax,L3.bMin,L3.bMin3,L3.bInt,L3.bList,L3.bIsT,L3.ty3,L3.isa,L3.eCall,L3.opt,L3.Res.bind,L3.Res.bindS,L3.Vl.fz,L3.C3.fz,L3.tE,L3.tP,L3.tru3,L3.tTru,L3.tAnd3,L3.tOr3,L3.tNot3,L3.rdl,L3.rdm,L3.mtO,L3.wr3,L3.at0,L3.at1,L3.at2,L3.at3,L3.at4,List.map_cons,List.map_nil,List.length_cons,List.length_nil,List.replicate,List.cons_append,List.nil_append,List.append_nil,List.getElem?_cons_zero,List.getElem?_cons_succ,List.getElem?_nil,List.set_cons_zero,List.set_cons_succ,Option.map_some,Option.map_none,Option.bind_some,Nat.reduceSub,Nat.reduceAdd,Nat.reduceLT,Nat.reduceEqDiff,Nat.reduceLeDiff,Nat.zero_add,reduceIte,ite_true,ite_false,if_true,if_false,Bool.not_true,Bool.not_false,decide_true,decide_false,Bool.true_and,Bool.false_and,Bool.or_true,Bool.or_false,Bool.true_or,Bool.false_or,beq_self_eq_true,String.reduceEq,String.reduceBEq,or_true,true_or,or_false,false_or,reduceCtorEq,Int.reduceLT,Int.reduceLE,Int.reduceNeg,L3.oAdd_int,L3.oAddI_int,L3.oSub_int,L3.oMul_int,L3.oDiv_int,L3.oMod_int,L3.oShr_int,L3.oPow_int,L3.oAndI_int,L3.oLt_int,L3.oLe_int,L3.oGt_int,L3.oGe_int,L3.oIx_tup,L3.oIx_lst,L3.oIx_scr,L3.sMt_ap,L3.mAppend_ok,L3.sz0,L3.sz1,L3.sz2,L3.sz3,L3.sz4,L3.sz5,L3.gb,Int.cast_ofNat_Int,Int.reduceEq,Bool.false_eq_true,$xs,*] $[$l]?)
namespace L3
open PySem L2
def tx (l:List Nat):Str:=⟨l.toArray⟩
theorem qa (l:List Nat):(tx l).length=l.length:=by simp [tx,Str.length]
theorem zed (l:List Nat):(tx l).cps.toList=l:=by simp [tx]
theorem ztd (z:Str):tx z.cps.toList=z:=by simp [tx]
theorem zqx {a b:List Nat} (h:tx a=tx b):a=b:=by have:=congrArg (fun z:Str=>z.cps.toList) h;simpa [tx] using this
theorem zqo (a b:List Nat):tx a++tx b=tx (a++b):=by
 show Str.append (tx a) (tx b)=_
 simp [Str.append,tx]
def yw (c:Nat):Bool:=decide (97≤c) && decide (c≤122)
def fig (c:Nat):Bool:=decide (48≤c) && decide (c≤57)
def abc:List Nat:=[97,98,99,100,101,102,103,104,105,106,107,108,109,110,111,112,113,114,115,116,117,118,119,120,121,122]
def abc9:List Nat:=abc++[48,49,50,51,52,53,54,55,56,57]
theorem zni:("abcdefghijklmnopqrstuvwxyz" :Str)=tx abc:=by decide+kernel
theorem zjs:("abcdefghijklmnopqrstuvwxyz0123456789" :Str)=tx abc9:=by decide+kernel
theorem zk8 (c:Nat):decide (c∈abc)=yw c:=by
 by_cases h:c < 128
 ·exact (by decide+kernel: ∀c,c < 128→decide (c∈abc)=yw c) c h
 ·rw [decide_eq_false fun m=>h ((by decide+kernel: ∀x∈abc,x < 128) c m)]
  unfold yw
  rw [decide_eq_false (p:=c≤122) (by omega),Bool.and_false]
theorem zm7 (c:Nat):decide (c∈abc9)=(yw c || fig c):=by
 by_cases h:c < 128
 ·exact (by decide+kernel: ∀c,c < 128→decide (c∈abc9)=(yw c || fig c)) c h
 ·rw [decide_eq_false fun m=>h ((by decide+kernel: ∀x∈abc9,x < 128) c m)]
  unfold yw fig
  rw [decide_eq_false (p:=c≤122) (by omega),decide_eq_false (p:=c≤57) (by omega),Bool.and_false,Bool.and_false,Bool.or_false]
theorem zgb {s:S3} {h:H3} {c:Nat} {l:List Nat}:oInS false s h (.x (.str (tx [c]))) (.x (.str (tx l)))=some (.v (.bl (decide (c∈l)))):=by
 unfold oInS
 simp only [Bool.false_eq_true,if_false]
 rw [show (tx [c])=⟨#[c]⟩ from rfl,zit,zed]
theorem zc6 {s:S3} {h:H3} {l:List Nat} {i:Int} (hl:l.length≤sizeLine):zE s h (.x (.str (tx l))) (.x (.int i))=(atI l i).map fun c=> .v (.str (tx [c])):=by
 unfold zE yN oIxT oIxL oIxS
 simp only [rdl,qa,zed,if_pos hl]
 cases atI l i <;> rfl
theorem zm8 {s:S3} {h:H3} {a b:List Nat} (hl:a.length+b.length≤sizeLine):zl s h (.x (.str (tx a))) (.x (.str (tx b)))=some (.v (.str (tx (a++b)))):=by
 unfold zl yN zkw oI zkq
 simp only [qa,if_pos hl,zqo]
theorem sz36:36≤sizeLine:=by have:=yr;omega
def qp (l:List Nat):Bool:=decide (1≤l.length) && decide (l.length≤8) && (yw (l.headD 0) && l.all fun c=>yw c || fig c)
theorem zi5 {n:Nat} {fr:List Nat} {a:A3} {g:G3} {e:E3} {s:S3} {h:H3} {j:Int} (I:S3→Prop) (f:Nat→V3) (ea:a s h= .ok [.x (.int j)] h) (hj: -1000000≤j∧j≤1000000)
  (h0:I (yc n fr s)) (step: ∀(k:Nat) s,k < j.toNat→I s→∃s1 r,g (.int (k:Int)) s=some s1∧I s1∧e s1 h= .ok r h∧r.fz=some (f k)):
  zgf n fr (yQ a) g tTru e s h= .ok (.m (.lst ((List.range j.toNat).map f))) h:=by
 have hj2: -(2 ^ 62)≤j∧j < 2 ^ 62:=by omega
 have:=zig (ok:=fun _=>True) (g:=g) (e:=e) (h:=h) I (fun k:Nat=>V3.int (0+(k:Int))) f trivial (l:=List.range j.toNat) (by rw [List.length_range];have:=yr;omega)
  (fun k s hk hI=>by rw [Int.zero_add];exact step k s (by simpa using hk) hI) h0
 unfold zgf yQ
 simp only [ea,Res.bind,if_pos hj2,this]
theorem ziu {n:Nat} {fr:List Nat} {p:P3} {g:G3} {e:E3} {s:S3} {h:H3} {l:List Nat} (I:S3→Prop) (f:Nat→V3) (ep:p s h= .ok (.x (.str (tx l))) h) (hl:l.length≤1000000)
  (h0:I (yc n fr s)) (step: ∀a s,a∈l→I s→∃s1 r,g (.str (tx [a])) s=some s1∧I s1∧e s1 h= .ok r h∧r.fz=some (f a)):
  zgf n fr (iS p) g tTru e s h= .ok (.m (.lst (l.map f))) h:=by
 have:=zig (ok:=fun _=>True) (g:=g) (e:=e) (h:=h) I (fun a:Nat=>V3.str (tx [a])) f trivial (l:=l) (by have:=yr;omega) step h0
 have hl2:(tx l).length≤sizeLine:=by rw [qa];have:=yr;omega
 unfold zgf iS
 simp only [ep,Res.bind,if_pos hl2,zed]
 first
  | (simp only [show ∀a:Nat,(⟨#[a]⟩:Str)=tx [a] from fun _=>rfl,this])
  | (rw [show (l.map fun c=>V3.str ⟨#[c]⟩)=l.map (fun a=>V3.str (tx [a])) from rfl,this])
theorem zpq {s:S3} {h:H3} {q:List Bool→Bool} {bs:List Bool}:bAll q s h [.x (.lst (bs.map .bl))]=some (.v (.bl (q bs))):=by
 unfold bAll;simp only [rdl,zov,Option.map_some]
theorem zqv {a:A3} {s:S3} {h:H3} {j:Int} (ea:a s h= .ok [.x (.int j)] h) (hj: -(2 ^ 62)≤j∧j < 2 ^ 62):yQ a s h= .ok ⟨[],(List.range j.toNat).map fun k=> .int ((k:Nat):Int),fun _=>True⟩ h:=by
 unfold yQ;simp only [ea,Res.bind,if_pos hj,Int.zero_add]
def Yes (R:Res Vl):Prop:=∃h',R= .ok (.v (.bl true)) h'
theorem zhx {s:S3} {h:H3} {i:Nat} {j:Int}:zE s h (.s i) (.x (.int j))=match s[i]? with
  | some (some (.m (.lst xs)))=>(atI xs j).map .v
  | _=>none:=by
 unfold zE yN oIxT oIxL oIxS
 simp only [rdl]
 generalize s[i]? =o
 match o with
 | none=>rfl
 | some none=>rfl
 | some (some (.v _))=>rfl
 | some (some (.m (.lst xs)))=>simp only [];cases atI xs j <;> rfl
 | some (some (.m (.dK _)))=>rfl
 | some (some (.m (.dT _)))=>rfl
 | some (some (.m (.ins _ _)))=>rfl
 | some (some (.m .dead))=>rfl
theorem isEmpty_map {α β:Type} {l:List α} {f:α→β}:(l.map f).isEmpty=l.isEmpty:=by cases l <;> rfl
theorem zkn {α:Type} {l:List α} {i:Nat} {a:α} (h:l[i]? =some a):l.drop i=a::l.drop (i+1):=by
 obtain ⟨hi,rfl⟩:=List.getElem?_eq_some_iff.1 h
 exact List.drop_eq_getElem_cons hi
theorem zji {α:Type} {l:List α} {i:Nat} {a:α} (h:l[i]? =some a):l.take (i+1)=l.take i++[a]:=by rw [List.take_add_one,h];rfl
theorem zkd {α:Type} (xs:List α) (k:Nat):zJ xs (some (k:Int)) none=xs.drop k:=by
 unfold zJ HT.sIx
 have h1: ¬((k:Int) < 0):=by omega
 simp only [if_neg h1,Int.toNat_natCast]
 by_cases hk:k≤xs.length
 ·rw [Nat.min_eq_left hk,List.take_of_length_le (by simp)]
 ·rw [Nat.min_eq_right (by omega),List.drop_length,List.drop_eq_nil_of_le (by omega)];simp
theorem zp5 {α:Type} (xs:List α) (k:Nat):zJ xs none (some (k:Int))=xs.take k:=by
 unfold zJ HT.sIx
 have h1: ¬((k:Int) < 0):=by omega
 simp only [if_neg h1,Int.toNat_natCast,List.drop_zero,Nat.sub_zero]
 rw [List.take_eq_take_iff];omega
theorem zek {f:V3→V3→Option Bool}: ∀{xs:List V3},(∀x∈xs,f x x=some true)→z4 f xs xs=some true
 | [],_=>rfl
 | x::r,h=>by simp only [z4,h x List.mem_cons_self,zek (xs:=r) fun y hy=>h y (List.mem_cons_of_mem _ hy),Bool.and_self]
theorem zms {s:S3} {h:H3} {f g:Rf} {xs:List V3} (hf:rdm s h f=some xs) (hg:rdm s h g=some xs) (hx: ∀x∈xs,zp h 8 x x=some true):yH s h f g=some true:=by
 unfold yH;rw [hf,hg];simp only [if_true,zek hx]
theorem zme {s:S3} {h:H3} {f g:Rf} {xs:List V3} (hf:rdm s h f=some xs) (hg:rdm s h g=some xs) (hx: ∀x∈xs,zp h 8 x x=some true):yk s h f g=some (.v (.bl false)):=by
 unfold yk;rw [zms hf hg hx];rfl
theorem zho {h:H3} {n:Nat} {xs:List V3} (hx: ∀x∈xs,zp h n x x=some true):zp h (n+1) (.tup xs) (.tup xs)=some true:=by
 simp only [zp,zL]
 rw [zek hx];simp
theorem zpn {s:S3} {h:H3} {f:Rf} {xs:List V3} (hf:rdm s h f=some xs):yH s h f (.x (.lst []))=some xs.isEmpty:=by
 unfold yH;rw [hf]
 simp only [rdm,rdl]
 cases xs <;> rfl
theorem zki {s:S3} {h:H3} {f:Rf} {xs:List V3} (hf:rdm s h f=some xs):yk s h f (.x (.lst []))=some (.v (.bl !xs.isEmpty)):=by unfold yk;rw [zpn hf];rfl
theorem zq9 {s:S3} {h:H3} {i:Nat} {xs:List V3} (e:s[i]? =some (some (.m (.lst xs)))):rdm s h (.s i)=some xs:=by
 show rdl s h (.s i)=_
 simp only [rdl,e]
theorem zts {Q:Res Vl→Prop} {ok:H3→Prop} {g:G3} {b r:D3} {α:Type} {enc:α→V3} {l:List α} (I:Nat→S3→H3→Prop) (hok: ∀i s h,I i s h→ok h)
  (step: ∀(i:Nat) a s h,l[i]? =some a→I i s h→(∃s2 h2,(gb g b (enc a) s h= .nx s2 h2∨gb g b (enc a) s h= .ct s2 h2)∧I (i+1) s2 h2)∨(∃v h2,gb g b (enc a) s h= .rt v h2∧Q (.ok v h2))∨∃s2 h2,gb g b (enc a) s h= .bk s2 h2∧Q ((r s2 h2).res))
  (k: ∀s' h',I l.length s' h'→Q ((r s' h').res)): ∀(n i:Nat) (s:S3) (h:H3),l.length - i=n→i≤l.length→I i s h→Q ((match zq ok g b ((l.drop i).map enc) s h with | .nx s h=>r s h | o=>o).res):=by
 intro n
 induction n with
 | zero=>
  intro i s h hn hi hI
  have e:i=l.length:=by omega
  subst e
  rw [List.drop_length,List.map_nil]
  unfold zq
  rw [if_pos (hok _ _ _ hI)]
  exact k s h hI
 | succ n ih=>
  intro i s h hn hi hI
  have hil:i < l.length:=by omega
  rw [zkn (zR hil),List.map_cons]
  unfold zq
  rw [if_pos (hok _ _ _ hI)]
  have st:=step i l[i] s h (zR hil) hI
  unfold gb at st
  cases q:g (enc l[i]) s with
  | none=>simp only [q] at st;rcases st with ⟨_,_,z | z,_⟩ | ⟨_,_,z,_⟩ | ⟨_,_,z,_⟩ <;> cases z
  | some s1=>
   simp only [q] at st ⊢
   rcases st with ⟨s2,h2,z | z,hI2⟩ | ⟨v,h2,z,hq⟩ | ⟨s2,h2,z,hq⟩
   ·rw [z];exact ih (i+1) s2 h2 (by omega) hil hI2
   ·rw [z];exact ih (i+1) s2 h2 (by omega) hil hI2
   ·rw [z];exact hq
   ·rw [z];exact hq
theorem it_E {Q:Res Vl→Prop} {α:Type} {it:I3} {g:G3} {b r:D3} {s:S3} {h:H3} {its:List V3} {ok:H3→Prop} {enc:α→V3} {l:List α} (ei:it s h= .ok ⟨its,l.map enc,ok⟩ h)
  (I:Nat→S3→H3→Prop) (hok: ∀i s h,I i s h→ok h) (h0:I 0 s h)
  (step: ∀(i:Nat) a s h,l[i]? =some a→I i s h→(∃s2 h2,(gb g b (enc a) s h= .nx s2 h2∨gb g b (enc a) s h= .ct s2 h2)∧I (i+1) s2 h2)∨(∃v h2,gb g b (enc a) s h= .rt v h2∧Q (.ok v h2))∨∃s2 h2,gb g b (enc a) s h= .bk s2 h2∧Q ((r s2 h2).res))
  (k: ∀s' h',I l.length s' h'→Q ((r s' h').res)):Q ((sSeq (zB it g b) r s h).res):=by
 have:=zts (Q:=Q) (r:=r) I hok step k _ 0 s h rfl (Nat.zero_le _) h0
 unfold sSeq zB
 simp only [ei,Res.bindS]
 rw [List.drop_zero] at this
 exact this
theorem zsg {p:P3} {s:S3} {h:H3} {x:V3} {xs:List V3} {ok:H3→Prop} (ep:p s h= .ok (.x x) h) (hw:zhu h x=some (xs,ok)):iL p s h= .ok ⟨[x],xs,ok⟩ h:=by
 unfold iL;simp only [ep,Res.bind,hw]
end L3
namespace My
open PySem L2 L3
def mix1 (c k:Int):Int:=(c+7919*k+11) % 2147483647
def mix2 (c k:Int):Int:=mix1 c k*mix1 c k % 2147483629
def zQ (c k:Int):Int:=mix2 c k*48271 % 2147483647
theorem znf (c k:Int):0≤mix1 c k∧mix1 c k < 2147483647:=⟨Int.emod_nonneg _ (by decide),Int.emod_lt_of_pos _ (by decide)⟩
theorem zr2 (c k:Int):0≤zQ c k∧zQ c k < 2147483647:=⟨Int.emod_nonneg _ (by decide),Int.emod_lt_of_pos _ (by decide)⟩
theorem zav (c k:Int) (h:H3):yu [.int c,.int k] h= .ok (.v (.int (zQ c k))) h:=by
 have c1:CMul 7919 k:=zfg ⟨by decide,by decide⟩
 have c3:CMul (mix1 c k) (mix1 c k):=zfg ⟨by have:=znf c k;omega,by have:=znf c k;omega⟩
 have c4:CMul (mix2 c k) 48271:=zj0 ⟨by decide,by decide⟩
 have m1:(c+7919*k+11) % 2147483647=mix1 c k:=rfl
 have m2:mix1 c k*mix1 c k % 2147483629=mix2 c k:=rfl
 simp_arith [yu,zdi,c1,c3,c4,m1,m2,zQ]
def cell (ns:List Int) (k:Nat):Int:=(ns[k]?).getD 0
theorem zef (ns:List Int) (k:Nat) (h:H3):za7 [.scr ns,.int k] h= .ok (.v (.int (cell ns k))) h:=by
 by_cases hk:k < ns.length
 ·have hl:((k:Int) < (ns.length:Int)):=by omega
  have ha:atI (ns.map V3.int) (k:Int)=some (.int ns[k]):=qe (j:=k) (by rw [List.getElem?_map,zR hk];rfl)
  have hc:cell ns k=ns[k]:=by unfold cell;rw [zR hk];rfl
  simp_arith [za7,zb6,List.length_map,hl,ha,hc]
 ·have hl: ¬((k:Int) < (ns.length:Int)):=by omega
  have hc:cell ns k=0:=by unfold cell;rw [List.getElem?_eq_none (by omega)];rfl
  simp_arith [za7,zb6,List.length_map,hl,hc]
def qy (c:Nat):Bool:=yw c || fig c
theorem zf9 {l:List Nat} (h: ¬(1≤l.length∧l.length≤8)):qp l=false:=by
 unfold qp
 by_cases q:1≤l.length
 ·rw [decide_eq_false (p:=l.length≤8) fun z=>h ⟨q,z⟩,Bool.and_false];rfl
 ·rw [decide_eq_false q];rfl
theorem zia {l:List Nat} {a:Nat} (h1:1≤l.length) (h2:l.length≤8) (hd:l.headD 0=a):qp l=(yw a && l.all qy):=by unfold qp;rw [decide_eq_true h1,decide_eq_true h2,hd];rfl
theorem zjv {l:List Nat} (h: ¬(l.length:Int) < 1): ∃a,atI l 0=some a∧l.headD 0=a∧∃r,l=a::r:=by
 cases l with
 | nil=>simp at h
 | cons a r=>exact ⟨a,qe (j:=0) rfl,rfl,r,rfl⟩
theorem zhh {l:List Nat} (hl:l.length≤100000) (h:H3):yC [.str (tx l)] h= .ok (.v (.bl (qp l))) h:=by
 have hl2:l.length≤sizeLine:=by have:=yr;omega
 by_cases h1:(1:Int)≤(l.length:Int)
 ·by_cases h2:(l.length:Int)≤8
  ·have hc:zcw [some (.v (.str (tx l)))] h= .ok (.m (.lst ((l.map qy).map .bl))) h:=by
    unfold zcw
    rw [List.map_map]
    refine ziu (fun s=> ∃x,s=[x]) _ (by simp_arith []) (by omega) ⟨none,rfl⟩ ?_
    rintro c s _ ⟨x,rfl⟩
    exact ⟨_,_,by (simp_arith []) <;> rfl,⟨_,rfl⟩,by (simp_arith [zjs,zgb,zm7]) <;> rfl,rfl⟩
   have hb:bAll (fun bs=>bs.all id) [some (.v (.str (tx l)))] h [.x (.lst ((l.map qy).map .bl))]=some (.v (.bl (l.all qy))):=by rw [zpq,List.all_map];rfl
   obtain ⟨a,at0,hd,_⟩:=zjv (l:=l) (by omega)
   rw [zia (by omega) (by omega) hd]
   cases hs:yw a with
   | false=>(simp_arith [yC,qb,qa,hl2,h1,h2,zc6,at0,zni,zgb,zk8,hs,hc,hb]) <;> rfl
   | true=>(simp_arith [yC,qb,qa,hl2,h1,h2,zc6,at0,zni,zgb,zk8,hs,hc,hb]) <;> rfl
  ·rw [zf9 (by omega)]
   simp_arith [yC,qb,qa,hl2,h1,h2]
 ·rw [zf9 (by omega)]
  simp_arith [yC,qb,qa,hl2,h1]
theorem zmj {l:List Nat} {k c:Nat} (q:Nat→Bool) (hc:l[k]? =some c) (h:(l.take k).all q=true):(l.take (k+1)).all q=q c:=by
 rw [zji hc,List.all_append,h];simp
def Rt (r:Vl) (h:H3) (R:Res Vl):Prop:=R= .ok r h
theorem zfs {s:S3} {h:H3} {a b:Nat}:zZ s h (.x (.str (tx [a]))) (.x (.str (tx [b])))=some (.v (.bl (decide (a≤b)))):=by
 show some (Vl.v (.bl (!decide ((tx [b]).cps.toList < (tx [a]).cps.toList))))=_
 rw [zed,zed]
 congr 3
 rw [Bool.eq_iff_iff]
 simp only [Bool.not_eq_true',decide_eq_false_iff_not,decide_eq_true_eq]
 constructor
 ·intro z
  exact Nat.le_of_not_lt fun w=>z (List.Lex.rel w)
 ·intro z w
  cases w with
  | rel w=>omega
  | cons w=>cases w
theorem tx_a:("a" :Str)=tx [97]:=by decide+kernel
theorem tx_z:("z" :Str)=tx [122]:=by decide+kernel
theorem tx_0:("0" :Str)=tx [48]:=by decide+kernel
theorem tx_9:("9" :Str)=tx [57]:=by decide+kernel
theorem ztg {l:List Nat} {k:Int} {c:Nat} (hl2:l.length≤sizeLine) (hat:atI l k=some c) {z:Option Vl} {h:H3}:eChain zZ zZ (pE (eC (.str ("a" :Str)))) (pE (eOp zE (pV 0) (pV 1))) (pE (eC (.str ("z" :Str)))) [some (.v (.str (tx l))),some (.v (.int k)),z] h= .ok (.v (.bl (yw c))) h:=by
 unfold yw
 by_cases h1:97≤c
 ·(simp_arith [tx_a,tx_z,zc6,hl2,hat,zfs,h1,decide_eq_true h1,Bool.true_and]) <;> rfl
 ·(simp_arith [tx_a,tx_z,zc6,hl2,hat,zfs,h1,decide_eq_false h1,Bool.false_and]) <;> rfl
theorem ztk {l:List Nat} {k:Int} {c:Nat} (hl2:l.length≤sizeLine) (hat:atI l k=some c) {z:Option Vl} {h:H3}:eChain zZ zZ (pE (eC (.str ("0" :Str)))) (pE (eOp zE (pV 0) (pV 1))) (pE (eC (.str ("9" :Str)))) [some (.v (.str (tx l))),some (.v (.int k)),z] h= .ok (.v (.bl (fig c))) h:=by
 unfold fig
 by_cases h1:48≤c
 ·(simp_arith [tx_0,tx_9,zc6,hl2,hat,zfs,h1,decide_eq_true h1,Bool.true_and]) <;> rfl
 ·(simp_arith [tx_0,tx_9,zc6,hl2,hat,zfs,h1,decide_eq_false h1,Bool.false_and]) <;> rfl
theorem ztl {C:E3} {x:V3} {k:Int} {b f:Bool} {h:H3} (e:C [some (.v x),some (.v (.int k)),some (.v (.bl b))] h= .ok (.v (.bl f)) h):(sIf (tAnd3 (tNot3 (tP (pV 2))) (tOr3 (tE (eOp yU (pV 1) (pE (eC (.int 0))))) (tNot3 (tE C)))) (sRet (eC (.bl false))) sSkip) [some (.v x),some (.v (.int k)),some (.v (.bl b))] h=if b=true∨(k≠0∧f=true) then .nx [some (.v x),some (.v (.int k)),some (.v (.bl b))] h else .rt (.v (.bl false)) h:=by
 cases b with
 | true=>rw [if_pos (.inl rfl)];(simp_arith []) <;> rfl
 | false=>
  by_cases hk:k=0
  ·subst hk
   rw [if_neg (by simp)];(simp_arith []) <;> rfl
  ·have hd:decide (k=0)=false:=decide_eq_false hk
   cases f with
   | true=>rw [if_pos (.inr ⟨hk,rfl⟩)];(simp_arith [e,hk,hd]) <;> rfl
   | false=>rw [if_neg (by simp)];(simp_arith [e,hk,hd]) <;> rfl
theorem gb_n {i:Nat} {b:D3} {v:V3} {s:S3} {h:H3} (hi:i < s.length):gb (gN i) b v s h=b (s.set i (some (.v v))) h:=by
 unfold gb gN;rw [if_pos hi]
theorem zhe {l:List Nat} (hl:l.length≤100000) (h:H3):yL [.str (tx l)] h= .ok (.v (.bl (qp l))) h:=by
 have hl2:l.length≤sizeLine:=by have:=yr;omega
 by_cases h1:(l.length:Int) < 1
 ·rw [zf9 (by omega)]
  simp_arith [yL,qk,qa,hl2,h1]
 ·by_cases h2:(8:Int) < (l.length:Int)
  ·rw [zf9 (by omega)]
   simp_arith [yL,qk,qa,hl2,h1,h2]
  ·obtain ⟨a,at0,hd,r,hlr⟩:=zjv h1
   show Rt (.v (.bl (qp l))) h _
   unfold yL qk zcc
   refine zgl rfl ?_
   refine yE (by (simp_arith [qa,hl2,h1,h2]) <;> rfl) ?_
   refine it_E (l:=List.range l.length) (enc:=fun k:Nat=>V3.int (k:Int)) (its:=[]) (ok:=fun _=>True) (zqv (j:=(l.length:Int)) (by (simp_arith [qa,hl2]) <;> rfl) (by omega)) (fun i s h'=>h'=h∧∃y z,s=[some (.v (.str (tx l))),y,z]∧(1≤i→yw a=true)∧(l.take i).all qy=true) (fun _ _ _ _=>trivial) ⟨rfl,none,none,rfl,fun z=>absurd z (by decide),rfl⟩ ?_ ?_
   ·rintro i k s h' hk ⟨rfl,y,z,rfl,h0,hI⟩
    have hi:i < l.length:=by have:=(List.getElem?_eq_some_iff.mp hk).1;simpa using this
    have ek:k=i:=by rw [List.getElem?_range hi] at hk;cases hk;rfl
    subst ek
    have hc:l[k]? =some (l.getD k 0):=by rw [zR hi,List.getD_eq_getElem?_getD,zR hi];rfl
    have hat:atI l (k:Int)=some (l.getD k 0):=qe hc
    have hn:=zmj qy hc hI
    have hm:=List.mem_of_getElem? hc
    have hz:k=0→l.getD k 0=a:=fun z=>by rw [z,hlr];rfl
    generalize l.getD k 0=c at*
    have bad:qy c=false→qp l=false:=fun z=>by
     rw [zia (by omega) (by omega) hd,Bool.eq_false_iff.mpr (fun q:l.all qy=true=>by rw [List.all_eq_true] at q;rw [q c hm] at z;cases z),Bool.and_false]
    have b1:sSet 2 (eChain zZ zZ (pE (eC (.str ("a" :Str)))) (pE (eOp zE (pV 0) (pV 1))) (pE (eC (.str ("z" :Str))))) [some (.v (.str (tx l))),some (.v (.int (k:Int))),z] h'= .nx [some (.v (.str (tx l))),some (.v (.int (k:Int))),some (.v (.bl (yw c)))] h':=by
     unfold sSet;rw [ztg hl2 hat];rfl
    have b2:=ztl (ztk (k:=(k:Int)) hl2 hat (z:=some (.v (.bl (yw c)))) (h:=h'))
    have st:=(gb_n (i:=1) (b:=_) (v:= .int (k:Int)) (s:=[some (.v (.str (tx l))),y,z]) (h:=h') (by show 1 < 3;decide)).trans ((yW b1).trans b2)
    by_cases q:yw c=true∨((k:Int)≠0∧fig c=true)
    ·rw [if_pos q] at st
     have e1:qy c=true:=by unfold qy;rcases q with q | q;rw [q];rfl;rw [q.2,Bool.or_true]
     rw [e1] at hn
     refine .inl ⟨_,_,.inl st,rfl,_,_,rfl,fun _=>?_,hn⟩
     by_cases z:k=0
     ·rw [←hz z];exact q.resolve_right fun w=>w.1 (by omega)
     ·exact h0 (by omega)
    ·rw [if_neg q] at st
     refine .inr (.inl ⟨.v (.bl false),_,st,?_⟩)
     unfold Rt
     have hs:yw c=false:=Bool.eq_false_iff.mpr fun w=>q (.inl w)
     by_cases z:k=0
     ·rw [zia (by omega) (by omega) hd,←hz z,hs];rfl
     ·rw [bad (by unfold qy;rw [hs,Bool.false_or];exact Bool.eq_false_iff.mpr fun w=>q (.inr ⟨by omega,w⟩))]
   ·rintro s h' ⟨rfl,y,z,rfl,h0,hI⟩
    rw [List.length_range] at h0 hI
    rw [List.take_length] at hI
    unfold Rt
    rw [zia (by omega) (by omega) hd,h0 (by omega),hI]
    (simp_arith []) <;> rfl
def Rx (d:Nat) (x:V3):Prop:=∀(H:H3) (m:Nat),d≤m→zp H m x x=some true
inductive Pv (k:Nat):V3→Prop
 | str (l:List Nat) (h:l.length≤9):Pv k (.str (tx l))
 | int (i:Int):Pv k (.int i)
 | bl (b:Bool):Pv k (.bl b)
 | non:Pv k .non
 | lst (x:V3) (d:Nat) (hd:d < k) (h:Rx d x):Pv k (.lst [x])
 | tup (x:V3) (d:Nat) (hd:d < k) (h:Rx d x):Pv k (.tup [x])
 | dict (hk:0 < k):Pv k (.dT [])
theorem Pv.mono {k m:Nat} {v:V3} (h:Pv k v) (hk:k≤m):Pv m v:=by
 cases h with
 | str l h=>exact .str l h
 | int i=>exact .int i
 | bl b=>exact .bl b
 | non=>exact .non
 | lst x d hd h=>exact .lst x d (by omega) h
 | tup x d hd h=>exact .tup x d (by omega) h
 | dict h=>exact .dict (by omega)
theorem Pv.rx {k:Nat} {v:V3} (h:Pv k v):Rx k v:=fun H m hm=>by
 cases h with
 | str l h=>rw [zhf];simp
 | int i=>rw [zhk];simp
 | bl b=>cases m <;> simp [zp,zL,eqV]
 | non=>cases m <;> simp [zp,zL,eqV]
 | lst x d hd h=>
  obtain ⟨n,rfl⟩: ∃n,m=n+1:=⟨m - 1,by omega⟩
  simp only [zp,zL,if_true]
  exact zek fun y hy=>by rw [List.mem_singleton] at hy;subst hy;exact h H n (by omega)
 | tup x d hd h=>
  obtain ⟨n,rfl⟩: ∃n,m=n+1:=⟨m - 1,by omega⟩
  exact zho fun y hy=>by rw [List.mem_singleton] at hy;subst hy;exact h H n (by omega)
 | dict h=>
  obtain ⟨n,rfl⟩: ∃n,m=n+1:=⟨m - 1,by omega⟩
  rfl
def nmB:V3→Bool
 | .str z=>qp z.cps.toList
 | _=>false
def yD (lo hi:Int):V3→Bool
 | .int i=>decide (lo≤i) && decide (i≤hi)
 | _=>false
theorem zrw {k:Nat} {v:V3} (hv:Pv k v) (h:H3):yC [v] h= .ok (.v (.bl (nmB v))) h:=by
 cases hv with
 | str l hl=>rw [zhh (by omega)];show _=Res.ok (Vl.v (.bl (qp (tx l).cps.toList))) h;rw [zed]
 | int i=>(simp_arith [yC,qb]) <;> rfl
 | bl b=>(simp_arith [yC,qb]) <;> rfl
 | non=>(simp_arith [yC,qb]) <;> rfl
 | lst x _ _ _=>(simp_arith [yC,qb]) <;> rfl
 | tup x _ _ _=>(simp_arith [yC,qb]) <;> rfl
 | dict _=>(simp_arith [yC,qb]) <;> rfl
theorem zoh {k:Nat} {v:V3} (hv:Pv k v) (h:H3):yL [v] h= .ok (.v (.bl (nmB v))) h:=by
 cases hv with
 | str l hl=>rw [zhe (by omega)];show _=Res.ok (Vl.v (.bl (qp (tx l).cps.toList))) h;rw [zed]
 | int i=>(simp_arith [yL,qk]) <;> rfl
 | bl b=>(simp_arith [yL,qk]) <;> rfl
 | non=>(simp_arith [yL,qk]) <;> rfl
 | lst x _ _ _=>(simp_arith [yL,qk]) <;> rfl
 | tup x _ _ _=>(simp_arith [yL,qk]) <;> rfl
 | dict _=>(simp_arith [yL,qk]) <;> rfl
theorem zii {k:Nat} {v:V3} (hv:Pv k v) (lo hi:Int) (h:H3):yq [v,.int lo,.int hi] h= .ok (.v (.bl (yD lo hi v))) h:=by
 cases hv with
 | int i=>
  unfold yD
  by_cases h1:lo≤i
  ·(simp_arith [yq,zan,h1,decide_eq_true h1,Bool.true_and]) <;> rfl
  ·(simp_arith [yq,zan,h1,decide_eq_false h1,Bool.false_and]) <;> rfl
 | str l hl=>(simp_arith [yq,zan]) <;> rfl
 | bl b=>(simp_arith [yq,zan]) <;> rfl
 | non=>(simp_arith [yq,zan]) <;> rfl
 | lst x _ _ _=>(simp_arith [yq,zan]) <;> rfl
 | tup x _ _ _=>(simp_arith [yq,zan]) <;> rfl
 | dict _=>(simp_arith [yq,zan]) <;> rfl
theorem zh0 {k:Nat} {v:V3} (hv:Pv k v) (lo hi:Int) (h:H3):yK [v,.int lo,.int hi] h= .ok (.v (.bl (yD lo hi v))) h:=by
 have w:zct [v] h= .ok (.v (.bl (match v with | .int _=>true | _=>false))) h:=by
  cases hv <;> (simp_arith [zct,zd1]) <;> rfl
 cases hv with
 | int i=>
  unfold yD
  by_cases h1:lo≤i
  ·(simp_arith [yK,zag,w,h1,decide_eq_true h1,Bool.true_and]) <;> rfl
  ·(simp_arith [yK,zag,w,h1,decide_eq_false h1,Bool.false_and]) <;> rfl
 | str l hl=>(simp_arith [yK,zag,w]) <;> rfl
 | bl b=>(simp_arith [yK,zag,w]) <;> rfl
 | non=>(simp_arith [yK,zag,w]) <;> rfl
 | lst x _ _ _=>(simp_arith [yK,zag,w]) <;> rfl
 | tup x _ _ _=>(simp_arith [yK,zag,w]) <;> rfl
 | dict _=>(simp_arith [yK,zag,w]) <;> rfl
structure Jv where
 n:V3
 f:V3
 l:V3
 w:V3
 b:V3
abbrev Jv.enc (j:Jv):V3:= .tup [j.n,j.f,j.l,j.w,j.b]
structure Jv.Ok (k:Nat) (j:Jv):Prop where
 n:Pv k j.n
 f:Pv k j.f
 l:Pv k j.l
 w:Pv k j.w
 b:Pv k j.b
def Jv.num (j:Jv):Bool:=(yD 0 1000000000 j.f && yD (-1) 10000000000 j.l) && (yD 1 60 j.w && yD 1 16 j.b)
theorem zpr {k:Nat} {j:Jv} (o:j.Ok k) (h:H3):zar [j.f,j.l,j.w,j.b] h= .ok (.v (.bl j.num)) h:=by
 have e1:=zh0 o.f 0 1000000000 h
 have e2:=zh0 o.l (-1) 10000000000 h
 have e3:=zh0 o.w 1 60 h
 have e4:=zh0 o.b 1 16 h
 unfold Jv.num
 generalize yD 0 1000000000 j.f=b1 at*
 generalize yD (-1) 10000000000 j.l=b2 at*
 generalize yD 1 60 j.w=b3 at*
 generalize yD 1 16 j.b=b4 at*
 cases b1 <;> cases b2 <;> cases b3 <;> cases b4 <;> (simp_arith [zar,zbf,e1,e2,e3,e4]) <;> rfl
inductive Dt
 | good
 | name
 | twice (l:List Nat)
 | num
 | many
def z7:V3→List Nat
 | .str z=>z.cps.toList
 | _=>[]
def zV:List (List Nat)→List Jv→Dt
 | _,[]=> .good
 | ls,j::r=>if nmB j.n=true then (if z7 j.n∈ls then .twice (z7 j.n) else if j.num=true then zV (ls++[z7 j.n]) r else .num) else .name
theorem zny {k:Nat} {v:V3} (h:Pv k v) (q:nmB v=true): ∃l,l.length≤9∧v= .str (tx l)∧z7 v=l:=by
 cases h with
 | str l h=>exact ⟨l,h,rfl,zed l⟩
 | _=>cases q
def fN (f:S3→H3→O3):O3→O3
 | .nx s h=>f s h
 | .ct s h=>f s h
 | .bk s h=> .nx s h
 | o=>o
theorem zbw {ok:H3→Prop} {g:G3} {b:D3} {x:V3} {r:List V3} {s:S3} {h:H3} {o:O3} (hok:ok h) (e:gb g b x s h=o) (ho:o≠ .no):zq ok g b (x::r) s h=fN (zq ok g b r) o:=by
 have u:zq ok g b (x::r) s h=match g x s with
  | none=> .no
  | some s1=>fN (zq ok g b r) (b s1 h):=by
  rw [zq,if_pos hok]
  cases g x s with
  | none=>rfl
  | some s1=>simp only [];cases b s1 h <;> rfl
 rw [u]
 unfold gb at e
 cases q:g x s with
 | none=>rw [q] at e;exact absurd e.symm ho
 | some s1=>rw [q] at e;simp only at e ⊢;rw [e]
abbrev xT:X3:=⟨"TooMany",none⟩
abbrev xN:X3:=⟨"NoName",none⟩
abbrev xU:X3:=⟨"NoNumber",none⟩
abbrev xW (l:List Nat):X3:=⟨"Twice",some (.str (tx l))⟩
theorem zg5 {s:S3} {h:H3} {i:Nat} {ls:List (List Nat)} {l:List Nat} (e:s[i]? =some (some (.m (.lst (ls.map fun l=> .str (tx l)))))):qj false s h (.x (.str (tx l))) (.s i)=some (.v (.bl (decide (l∈ls)))):=by
 have e2:zH (fun b=>zp h 8 b (.str (tx l))) (ls.map fun l=>V3.str (tx l))=some (ls.map fun m=>decide (tx m=tx l)):=zfo (f:=fun b=>zp h 8 b (.str (tx l))) (g:=fun l=>V3.str (tx l)) (k:=fun m=>decide (tx m=tx l)) (fun m=>zhf) ls
 have e3:(ls.map fun m=>decide (tx m=tx l)).any id=decide (l∈ls):=by
  rw [List.any_map,Bool.eq_iff_iff,List.any_eq_true,decide_eq_true_eq]
  constructor
  ·rintro ⟨m,hm,q⟩
   have:=zqx (of_decide_eq_true q)
   rw [←this];exact hm
  ·intro z
   exact ⟨l,z,by simp⟩
 unfold qj inO
 simp only [rdl,e,e2,Option.map_some,e3]
 first | rfl | simp
abbrev qB (x:V3) (ls:List (List Nat)) (x2 x3 x4 x5 x6:Option Vl):S3:=[some (.v x),some (.m (.lst (ls.map fun l=> .str (tx l)))),x2,x3,x4,x5,x6]
def y8:G3:=(gT (gsCons (gN 2) (gsCons (gN 3) (gsCons (gN 4) (gsCons (gN 5) (gsCons (gN 6) gsNil))))))
def ckB:D3:=(sSeq (sIf (tNot3 (tE (eCall yC (aCons (pV 2) aNil)))) (zds ("NoName" :Str) (aCons (pE (eC (.str ("the name of a job is no name" :Str)))) aNil)) sSkip) (sSeq (sIf (tE (eOp (qj false) (pV 2) (pV 1))) (zf2 ("Twice" :Str) (aCons (pV 2) aNil)) sSkip) (sSeq (sIf (tNot3 (tE (eCall zar (aCons (pV 3) (aCons (pV 4) (aCons (pV 5) (aCons (pV 6) aNil))))))) (zds ("NoNumber" :Str) (aCons (pE (eF3 (pE (eC (.str ("the numbers of the job " :Str)))) (pE (eFmt (pV 2))) (pE (eC (.str (" are out of bounds" :Str)))))) aNil)) sSkip) (sMt yJ (pV 1) (aCons (pV 2) aNil)))))
abbrev ckE (j:Jv) (x:V3) (ls:List (List Nat)):S3:=qB x ls (some (.v j.n)) (some (.v j.f)) (some (.v j.l)) (some (.v j.w)) (some (.v j.b))
theorem zq5 {k:Nat} {j:Jv} (o:j.Ok k) {ls:List (List Nat)} (hl:ls.length≤1000) {x:V3} {x2 x3 x4 x5 x6:Option Vl} (h:H3):gb y8 ckB j.enc (qB x ls x2 x3 x4 x5 x6) h=if nmB j.n=true then (if z7 j.n∈ls then .ex (xW (z7 j.n)) h else if j.num=true then .nx (ckE j x (ls++[z7 j.n])) h else .ex xU h) else .ex xN h:=by
 have e1:=zrw o.n h
 by_cases q:nmB j.n=true
 ·obtain ⟨l,hl9,e,el⟩:=zny o.n q
  rw [if_pos q,el]
  rw [q,e] at e1
  have e2:=zpr o h
  have q1:(tx l).length≤100000:=by rw [qa];omega
  have q2:(tx l).length≤10000:=by rw [qa];omega
  have hin: ∀x2 x3 x4 x5 x6,qj false (qB x ls x2 x3 x4 x5 x6) h (.x (.str (tx l))) (.s 1)=some (.v (.bl (decide (l∈ls)))):=fun x2 x3 x4 x5 x6=>zg5 rfl
  obtain ⟨n,f,la,w,b⟩:=j
  simp only at e e1 e2 el
  subst e
  generalize Jv.num _=bn at*
  by_cases hm:l∈ls
  ·rw [if_pos hm]
   rw [decide_eq_true hm] at hin
   unfold y8 ckB
   (simp_arith [e1,hin,zf2,q2]) <;> rfl
  ·rw [if_neg hm]
   rw [decide_eq_false hm] at hin
   cases bn with
   | true=>
    have hap: ∀y,yJ (ls.map fun l=>V3.str (tx l)) [y]=some ((ls.map fun l=>V3.str (tx l))++[y],.non):=fun y=>mAppend_ok (by rw [List.length_map];have:=yr;omega)
    rw [if_pos rfl]
    unfold y8 ckB ckE qB
    rw [List.map_append,List.map_cons,List.map_nil]
    (simp_arith [e1,hin,e2,hap]) <;> rfl
   | false=>
    have q3:("the numbers of the job " :Str).length≤10000:=by decide+kernel
    have q4:(" are out of bounds" :Str).length≤10000:=by decide+kernel
    rw [if_neg (by decide)]
    unfold y8 ckB
    (simp_arith [e1,hin,e2,zds,eF3,eFmt,if_pos q1,if_pos q2,if_pos q3,if_pos q4]) <;> rfl
 ·rw [if_neg q]
  rw [Bool.eq_false_iff.mpr q] at e1
  unfold y8 ckB
  (simp_arith [e1,zds]) <;> rfl
def ckR (h:H3):Dt→O3→Prop
 | .good,o=> ∃s',o= .nx s' h
 | .name,o=>o= .ex xN h
 | .twice l,o=>o= .ex (xW l) h
 | .num,o=>o= .ex xU h
 | .many,_=>False
theorem zn5 {ok:H3→Prop} {h:H3} (hok:ok h) {k:Nat} {x:V3}: ∀(js:List Jv) (ls:List (List Nat)) (x2 x3 x4 x5 x6:Option Vl),(∀j∈js,j.Ok k)→ls.length+js.length≤1000→ckR h (zV ls js) (zq ok y8 ckB (js.map Jv.enc) (qB x ls x2 x3 x4 x5 x6) h)
 | [],ls,x2,x3,x4,x5,x6,_,_=>⟨_,if_pos hok⟩
 | j::r,ls,x2,x3,x4,x5,x6,ho,hl=>by
  rw [List.length_cons] at hl
  have st:=zq5 (ho j List.mem_cons_self) (ls:=ls) (by omega) (x:=x) (x2:=x2) (x3:=x3) (x4:=x4) (x5:=x5) (x6:=x6) h
  unfold zV
  rw [List.map_cons]
  by_cases q:nmB j.n=true
  ·rw [if_pos q] at st ⊢
   by_cases hm:z7 j.n∈ls
   ·rw [if_pos hm] at st ⊢
    rw [zbw hok st (by intro z;cases z)];rfl
   ·rw [if_neg hm] at st ⊢
    by_cases hn:j.num=true
    ·rw [if_pos hn] at st ⊢
     rw [zbw hok st (by intro z;cases z)]
     exact zn5 hok r _ _ _ _ _ _ (fun j hj=>ho j (List.mem_cons_of_mem _ hj)) (by rw [List.length_append,List.length_singleton];omega)
    ·rw [if_neg hn] at st ⊢
     rw [zbw hok st (by intro z;cases z)];rfl
  ·rw [if_neg q] at st ⊢
   rw [zbw hok st (by intro z;cases z)];rfl
def duB:D3:=(sSeq (sIf (tNot3 (tE (eCall yL (aCons (pV 2) aNil)))) (sRet (eTup (aCons (pE (eC (.str ("NoName" :Str)))) (aCons (pE (eC .non)) aNil)))) sSkip) (sSeq (sIf (tE (eOp (qj false) (pV 2) (pV 1))) (sRet (eTup (aCons (pE (eC (.str ("Twice" :Str)))) (aCons (pV 2) aNil)))) sSkip) (sSeq (sIf (tOr3 (tNot3 (tE (eCall yq (aCons (pV 3) (aCons (pE (eC (.int 0))) (aCons (pE (eOp zF (pE (eC (.int 10))) (pE (eC (.int 9))))) aNil)))))) (tNot3 (tE (eCall yq (aCons (pV 4) (aCons (pE (eNeg (pE (eC (.int 1))))) (aCons (pE (eOp zF (pE (eC (.int 10))) (pE (eC (.int 10))))) aNil))))))) (sRet (eTup (aCons (pE (eC (.str ("NoNumber" :Str)))) (aCons (pE (eC .non)) aNil)))) sSkip) (sSeq (sIf (tOr3 (tNot3 (tE (eCall yq (aCons (pV 5) (aCons (pE (eC (.int 1))) (aCons (pE (eC (.int 60))) aNil)))))) (tNot3 (tE (eCall yq (aCons (pV 6) (aCons (pE (eC (.int 1))) (aCons (pE (eC (.int 16))) aNil))))))) (sRet (eTup (aCons (pE (eC (.str ("NoNumber" :Str)))) (aCons (pE (eC .non)) aNil)))) sSkip) (sMt yJ (pV 1) (aCons (pV 2) aNil))))))
def z0:Dt→V3
 | .good=> .tup [.str ("good" :Str),.non]
 | .name=> .tup [.str ("NoName" :Str),.non]
 | .twice l=> .tup [.str ("Twice" :Str),.str (tx l)]
 | .num=> .tup [.str ("NoNumber" :Str),.non]
 | .many=> .tup [.str ("TooMany" :Str),.non]
theorem p9 (s:S3) (h:H3):zF s h (.x (.int 10)) (.x (.int 9))=some (.v (.int 1000000000)):=by rfl
theorem p10 (s:S3) (h:H3):zF s h (.x (.int 10)) (.x (.int 10))=some (.v (.int 10000000000)):=by rfl
theorem zqk {k:Nat} {j:Jv} (o:j.Ok k) {ls:List (List Nat)} (hl:ls.length≤1000) {x:V3} {x2 x3 x4 x5 x6:Option Vl} (h:H3):gb y8 duB j.enc (qB x ls x2 x3 x4 x5 x6) h=if nmB j.n=true then (if z7 j.n∈ls then .rt (.v (z0 (.twice (z7 j.n)))) h else if j.num=true then .nx (ckE j x (ls++[z7 j.n])) h else .rt (.v (z0 .num)) h) else .rt (.v (z0 .name)) h:=by
 have e1:=zoh o.n h
 by_cases q:nmB j.n=true
 ·obtain ⟨l,hl9,e,el⟩:=zny o.n q
  rw [if_pos q,el]
  rw [q,e] at e1
  have u1:=zii o.f 0 1000000000 h
  have u2:=zii o.l (-1) 10000000000 h
  have u3:=zii o.w 1 60 h
  have u4:=zii o.b 1 16 h
  have hin: ∀x2 x3 x4 x5 x6,qj false (qB x ls x2 x3 x4 x5 x6) h (.x (.str (tx l))) (.s 1)=some (.v (.bl (decide (l∈ls)))):=fun x2 x3 x4 x5 x6=>zg5 rfl
  have hap: ∀y,yJ (ls.map fun l=>V3.str (tx l)) [y]=some ((ls.map fun l=>V3.str (tx l))++[y],.non):=fun y=>mAppend_ok (by rw [List.length_map];have:=yr;omega)
  unfold Jv.num
  obtain ⟨n,f,la,w,b⟩:=j
  simp only at e e1 u1 u2 u3 u4 el ⊢
  subst e
  generalize yD 0 1000000000 f=b1 at*
  generalize yD (-1) 10000000000 la=b2 at*
  generalize yD 1 60 w=b3 at*
  generalize yD 1 16 b=b4 at*
  by_cases hm:l∈ls
  ·rw [if_pos hm]
   rw [decide_eq_true hm] at hin
   unfold y8 duB
   (simp_arith [e1,hin]) <;> rfl
  ·rw [if_neg hm]
   rw [decide_eq_false hm] at hin
   unfold y8 duB ckE qB
   rw [List.map_append,List.map_cons,List.map_nil]
   cases b1 <;> cases b2 <;> cases b3 <;> cases b4 <;> (simp_arith [e1,hin,u1,u2,u3,u4,hap,p9,p10,Bool.and_true,Bool.and_false,Bool.false_and,Bool.true_and]) <;> rfl
 ·rw [if_neg q]
  rw [Bool.eq_false_iff.mpr q] at e1
  unfold y8 duB
  (simp_arith [e1]) <;> rfl
def duR (h:H3) (d:Dt) (o:O3):Prop:=match d with
 | .good=> ∃s',o= .nx s' h
 | d=>o= .rt (.v (z0 d)) h
theorem zno {ok:H3→Prop} {h:H3} (hok:ok h) {k:Nat} {x:V3}: ∀(js:List Jv) (ls:List (List Nat)) (x2 x3 x4 x5 x6:Option Vl),(∀j∈js,j.Ok k)→ls.length+js.length≤1000→duR h (zV ls js) (zq ok y8 duB (js.map Jv.enc) (qB x ls x2 x3 x4 x5 x6) h)
 | [],ls,x2,x3,x4,x5,x6,_,_=>⟨_,if_pos hok⟩
 | j::r,ls,x2,x3,x4,x5,x6,ho,hl=>by
  rw [List.length_cons] at hl
  have st:=zqk (ho j List.mem_cons_self) (ls:=ls) (by omega) (x:=x) (x2:=x2) (x3:=x3) (x4:=x4) (x5:=x5) (x6:=x6) h
  unfold zV
  rw [List.map_cons]
  by_cases q:nmB j.n=true
  ·rw [if_pos q] at st ⊢
   by_cases hm:z7 j.n∈ls
   ·rw [if_pos hm] at st ⊢
    rw [zbw hok st (by intro z;cases z)];rfl
   ·rw [if_neg hm] at st ⊢
    by_cases hn:j.num=true
    ·rw [if_pos hn] at st ⊢
     rw [zbw hok st (by intro z;cases z)]
     exact zno hok r _ _ _ _ _ _ (fun j hj=>ho j (List.mem_cons_of_mem _ hj)) (by rw [List.length_append,List.length_singleton];omega)
    ·rw [if_neg hn] at st ⊢
     rw [zbw hok st (by intro z;cases z)];rfl
  ·rw [if_neg q] at st ⊢
   rw [zbw hok st (by intro z;cases z)];rfl
def ye (js:List Jv):Dt:=if js.length≤12 then zV [] js else .many
theorem zj3 {it:I3} {g:G3} {b:D3} {v:V3} {s:S3} {h:H3} {its xs:List V3} {ok:H3→Prop} (ei:it s h= .ok ⟨its,xs,ok⟩ h) {r:D3}:(sSeq (zB it g b) r s h).res=(match zq ok g b xs s h with | .nx s h=>r s h | o=>o).res:=by
 unfold sSeq zB;simp only [ei,Res.bindS] <;> (cases zq ok g b xs s h <;> rfl)
theorem zqw {k:Nat} {js:List Jv} (ho: ∀j∈js,j.Ok k) (h:H3):zcs [.lst (js.map Jv.enc)] h= .ok (.v (z0 (ye js))) h:=by
 unfold ye
 by_cases hl:js.length≤12
 ·have hl': ¬((12:Int) < ((js.map Jv.enc).length:Int)):=by rw [List.length_map];omega
  rw [if_pos hl]
  refine zgl (Q:=fun R=>R= .ok (.v (z0 (zV [] js))) h) rfl ?_
  unfold zdo zdl
  refine yE (Q:=fun R=>R= .ok (.v (z0 (zV [] js))) h) (s1:=[some (.v (.lst (js.map Jv.enc))),none,none,none,none,none,none]) (h1:=h) (by (simp_arith [hl']) <;> rfl) ?_
  refine yE (Q:=fun R=>R= .ok (.v (z0 (zV [] js))) h) (s1:=qB (.lst (js.map Jv.enc)) [] none none none none none) (h1:=h) (by (simp_arith []) <;> rfl) ?_
  rw [zj3 (v:= .non) (its:=[.lst (js.map Jv.enc)]) (xs:=js.map Jv.enc) (ok:=fun _=>True) (zsg (by (simp_arith []) <;> rfl) rfl)]
  have:=zno (ok:=fun _=>True) (h:=h) trivial (x:= .lst (js.map Jv.enc)) js [] none none none none none ho (by simp;omega)
  unfold y8 duB at this
  cases q:zV [] js with
  | good=>rw [q] at this;obtain ⟨s',e⟩:=this;simp only [e];rfl
  | name=>rw [q] at this;have e:=this;unfold duR at e;simp only [e];rfl
  | twice l=>rw [q] at this;have e:=this;unfold duR at e;simp only [e];rfl
  | num=>rw [q] at this;have e:=this;unfold duR at e;simp only [e];rfl
  | many=>rw [q] at this;have e:=this;unfold duR at e;simp only [e];rfl
 ·have hl':((12:Int) < ((js.map Jv.enc).length:Int)):=by rw [List.length_map];omega
  rw [if_neg hl]
  (simp_arith [zcs,zdo,hl']) <;> rfl
def ckA (h:H3) (d:Dt) (R:Res Vl):Prop:=match d with
 | .good=>R= .ok (.v (.bl true)) h
 | .name=>R= .ex xN h
 | .twice l=>R= .ex (xW l) h
 | .num=>R= .ex xU h
 | .many=>R= .ex xT h
theorem zls {k:Nat} {js:List Jv} (ho: ∀j∈js,j.Ok k) (h:H3):ckA h (ye js) (zax [.lst (js.map Jv.enc)] h):=by
 unfold ye
 by_cases hl:js.length≤12
 ·have hl': ¬((12:Int) < ((js.map Jv.enc).length:Int)):=by rw [List.length_map];omega
  rw [if_pos hl]
  refine zgl (Q:=ckA h (zV [] js)) rfl ?_
  unfold zck zcq
  refine yE (Q:=ckA h (zV [] js)) (s1:=[some (.v (.lst (js.map Jv.enc))),none,none,none,none,none,none]) (h1:=h) (by (simp_arith [hl']) <;> rfl) ?_
  refine yE (Q:=ckA h (zV [] js)) (s1:=qB (.lst (js.map Jv.enc)) [] none none none none none) (h1:=h) (by (simp_arith []) <;> rfl) ?_
  rw [zj3 (v:= .non) (its:=[.lst (js.map Jv.enc)]) (xs:=js.map Jv.enc) (ok:=fun _=>True) (zsg (by (simp_arith []) <;> rfl) rfl)]
  have:=zn5 (ok:=fun _=>True) (h:=h) trivial (x:= .lst (js.map Jv.enc)) js [] none none none none none ho (by simp;omega)
  unfold y8 ckB at this
  cases q:zV [] js with
  | good=>rw [q] at this;obtain ⟨s',e⟩:=this;simp only [e];rfl
  | name=>rw [q] at this;have e:=this;unfold ckR at e;simp only [e];rfl
  | twice l=>rw [q] at this;have e:=this;unfold ckR at e;simp only [e];rfl
  | num=>rw [q] at this;have e:=this;unfold ckR at e;simp only [e];rfl
  | many=>rw [q] at this;exact this.elim
 ·have hl':((12:Int) < ((js.map Jv.enc).length:Int)):=by rw [List.length_map];omega
  rw [if_neg hl]
  unfold ckA
  (simp_arith [zax,zck,hl',zds]) <;> rfl
theorem ztv:zT z5 ("TooMany" :Str) ("TooMany" :Str)=some true:=by decide+kernel
theorem zst:zT z5 ("TooMany" :Str) ("NoName" :Str)=some false:=by decide+kernel
theorem zru:zT z5 ("TooMany" :Str) ("Twice" :Str)=some false:=by decide+kernel
theorem zsx:zT z5 ("TooMany" :Str) ("NoNumber" :Str)=some false:=by decide+kernel
theorem ztz:zT z5 ("TooMany" :Str) ("YardError" :Str)=some true:=by decide+kernel
theorem zsu:zT z5 ("NoName" :Str) ("TooMany" :Str)=some false:=by decide+kernel
theorem zsz:zT z5 ("NoName" :Str) ("NoName" :Str)=some true:=by decide+kernel
theorem zr7:zT z5 ("NoName" :Str) ("Twice" :Str)=some false:=by decide+kernel
theorem ztj:zT z5 ("NoName" :Str) ("NoNumber" :Str)=some false:=by decide+kernel
theorem zti:zT z5 ("NoName" :Str) ("YardError" :Str)=some true:=by decide+kernel
theorem ztc:zT z5 ("Twice" :Str) ("TooMany" :Str)=some false:=by decide+kernel
theorem zss:zT z5 ("Twice" :Str) ("NoName" :Str)=some false:=by decide+kernel
theorem zsk:zT z5 ("Twice" :Str) ("Twice" :Str)=some true:=by decide+kernel
theorem ztt:zT z5 ("Twice" :Str) ("NoNumber" :Str)=some false:=by decide+kernel
theorem zsw:zT z5 ("NoNumber" :Str) ("TooMany" :Str)=some false:=by decide+kernel
theorem ztf:zT z5 ("NoNumber" :Str) ("NoName" :Str)=some false:=by decide+kernel
theorem zsd:zT z5 ("NoNumber" :Str) ("Twice" :Str)=some false:=by decide+kernel
theorem zs9:zT z5 ("NoNumber" :Str) ("NoNumber" :Str)=some true:=by decide+kernel
theorem zsy:zT z5 ("NoNumber" :Str) ("YardError" :Str)=some true:=by decide+kernel
theorem ap1 (y:V3):yJ [] [y]=some ([y],.non):=mAppend_ok (by have:=yr;simp;omega)
section
variable {h:H3} {r:List V3}
theorem zqj:qi [.fn ("TooMany" :Str) r] h= .ok (.v (.str ("TooMany" :Str))) h:=by
 (simp_arith [qi,zb8,bIsE,bIsV,ztv,zst,zru,zsx,ap1,Option.map_some,qe]) <;> rfl
theorem zrv:qi [.fn ("NoName" :Str) r] h= .ok (.v (.str ("NoName" :Str))) h:=by
 (simp_arith [qi,zb8,bIsE,bIsV,zsu,zsz,zr7,ztj,ap1,Option.map_some]) <;> rfl
theorem zrm:qi [.fn ("Twice" :Str) r] h= .ok (.v (.str ("Twice" :Str))) h:=by
 (simp_arith [qi,zb8,bIsE,bIsV,ztc,zss,zsk,ztt,ap1,Option.map_some]) <;> rfl
theorem zrl:qi [.fn ("NoNumber" :Str) r] h= .ok (.v (.str ("NoNumber" :Str))) h:=by
 (simp_arith [qi,zb8,bIsE,bIsV,zsw,ztf,zsd,zs9,ap1,Option.map_some]) <;> rfl
end
theorem zkt {k:Nat} {js:List Jv} (ho: ∀j∈js,j.Ok k) (h:H3):yI [.lst (js.map Jv.enc)] h= .ok (.v (z0 (ye js))) h:=by
 have e:=zls ho h
 cases q:ye js with
 | good=>rw [q] at e;have e:zax [.lst (js.map Jv.enc)] h= .ok (.v (.bl true)) h:=e;(simp_arith [yI,zbp,zfy,e]) <;> rfl
 | name=>rw [q] at e;have e:zax [.lst (js.map Jv.enc)] h= .ex xN h:=e;(simp_arith [yI,zbp,zfy,e,pick,zr7,zti,asN,zrv,Option.toList]) <;> rfl
 | twice l=>rw [q] at e;have e:zax [.lst (js.map Jv.enc)] h= .ex (xW l) h:=e;(simp_arith [yI,zbp,zfy,e,pick,zsk,asN,zrm,eXn,Option.toList]) <;> rfl
 | num=>rw [q] at e;have e:zax [.lst (js.map Jv.enc)] h= .ex xU h:=e;(simp_arith [yI,zbp,zfy,e,pick,zsd,zsy,asN,zrl,Option.toList]) <;> rfl
 | many=>rw [q] at e;have e:zax [.lst (js.map Jv.enc)] h= .ex xT h:=e;(simp_arith [yI,zbp,zfy,e,pick,zru,ztz,asN,zqj,Option.toList]) <;> rfl
theorem zrt (d:Dt) (h:H3):zp h 9 (z0 d) (z0 d)=some true:=by
 cases d <;> exact zho fun x hx=>by simp only [List.mem_cons,List.not_mem_nil,or_false] at hx;rcases hx with rfl | rfl <;> first | (rw [zhf];simp) | rfl
theorem zng (d:Dt) (s:S3) (h:H3):rdm s h (.x (z0 d))=none:=by cases d <;> rfl
theorem zs8 (d:Dt) (s:S3) (h:H3):yk s h (.x (z0 d)) (.x (z0 d))=some (.v (.bl false)):=by
 unfold yk yH;rw [zng];simp only [zrt];rfl
theorem zrs (d:Dt) (s:S3) (h:H3):yU s h (.x (z0 d)) (.x (z0 d))=some (.v (.bl true)):=by
 unfold yU yH;rw [zng];simp only [zrt];rfl
theorem zdc (c k lo hi:Int) (hl:lo≤hi) (h:H3): ∃i:Int,zaw [.int c,.int k,.int lo,.int hi] h= .ok (.v (.int i)) h:=by
 have hm:=zr2 c k
 generalize e:zQ c k=m at hm
 have em:=zav c k h
 rw [e] at em
 have c1:CMul m 7:=zj0 ⟨by decide,by decide⟩
 have h1:0 < hi - lo+1:=by omega
 by_cases hq:m % 4=0
 ·have hd:decide (m % 4=0)=true:=decide_eq_true hq
  have h2:m / 4 % 2=0∨m / 4 % 2=1:=by omega
  rcases h2 with h2 | h2
  ·exact ⟨lo,by (simp_arith [zaw,zbx,em,hd,h2]) <;> rfl⟩
  ·exact ⟨hi,by (simp_arith [zaw,zbx,em,hd,h2]) <;> rfl⟩
 ·have hd:decide (m % 4=0)=false:=decide_eq_false hq
  exact ⟨lo+m*7 % (hi - lo+1),by (simp_arith [zaw,zbx,em,hd,c1,h1,oMod_int h1]) <;> rfl⟩
theorem zky {m:Int} (h:0≤m∧m < 36): ∃c,atI abc9 m=some c:=by
 obtain ⟨n,rfl⟩: ∃n:Nat,m=n:=⟨m.toNat,by omega⟩
 have hn:n < abc9.length:=by show n < 36;omega
 exact ⟨_,qe (zR hn)⟩
def QN (h:H3) (R:Res Vl):Prop:=∃l:List Nat,l.length≤9∧R= .ok (.v (.str (tx l))) h
theorem zmh (c k:Int) (h:H3):QN h (zcr [.int c,.int k] h):=by
 have hl:abc9.length≤sizeLine:=sz36
 unfold zcr zdy zc5
 refine zgl rfl ?_
 refine yE (by (simp_arith []) <;> rfl) ?_
 rw [zjs]
 obtain ⟨a,ha⟩:=zky (m:=(c % 26+k) % 26) ⟨by omega,by omega⟩
 refine yE (by (simp_arith [zc6,hl,ha]) <;> rfl) ?_
 refine zlq (j:=zQ c 3 % 4) (by (simp_arith [zav]) <;> rfl) (by omega) (fun i s=> ∃l y,l.length≤i+1∧s=[some (.v (.int c)),some (.v (.int k)),some (.v (.str (tx abc9))),some (.v (.str (tx l))),y]) ⟨[a],none,by simp,rfl⟩ ?_ ?_
 ·rintro i s hi ⟨l,y,hl1,rfl⟩
  have c1:CMul 10 k:=zfg ⟨by decide,by decide⟩
  obtain ⟨b,hb⟩:=zky (m:=zQ c (10*k+(i:Int)) % 36) ⟨by omega,by omega⟩
  have oa:=fun (s:S3)=>zm8 (s:=s) (h:=h) (a:=l) (b:=[b]) (by have:=yr;simp;omega)
  generalize ((i:Nat):Int)=I at*
  exact ⟨_,by (simp_arith [zav,zc6,hl,hb,c1,oa]) <;> rfl,l++[b],some (.v (.int I)),by simp;omega,rfl⟩
 ·rintro s ⟨l,y,hl1,rfl⟩
  exact ⟨l,by omega,by (simp_arith []) <;> rfl⟩
def QJ (h:H3) (R:Res Vl):Prop:=∃j:Jv,j.Ok 1∧R= .ok (.v j.enc) h
theorem zo9 (c k:Int) (h:H3):QJ h (zc0 [.int c,.int k] h):=by
 have c1:CMul 31 k:=zfg ⟨by decide,by decide⟩
 obtain ⟨a1,e1⟩:=zdc c (31*k+1) 0 1000000000 (by decide) h
 obtain ⟨a2,e2⟩:=zdc c (31*k+2) (-1) 10000000000 (by decide) h
 obtain ⟨a3,e3⟩:=zdc c (31*k+3) 1 60 (by decide) h
 obtain ⟨a4,e4⟩:=zdc c (31*k+4) 1 16 (by decide) h
 obtain ⟨l,hl,e5⟩:=zmh c k h
 refine ⟨⟨.str (tx l),.int a1,.int a2,.int a3,.int a4⟩,⟨.str l hl,.int _,.int _,.int _,.int _⟩,?_⟩
 (simp_arith [zc0,ze1,c1,p9,p10,e1,e2,e3,e4,e5]) <;> rfl
theorem zhg {α:Type} {l:List α} {m:Int} (h:0≤m∧m < (l.length:Int)): ∃c,atI l m=some c∧c∈l:=by
 obtain ⟨n,rfl⟩: ∃n:Nat,m=n:=⟨m.toNat,by omega⟩
 have hn:n < l.length:=by omega
 exact ⟨_,qe (zR hn),List.getElem_mem hn⟩
theorem tx_s (z:Str) (h:z.length≤9) {k:Nat}:Pv k (.str z):=by
  have := Pv.str (k := k) z.cps.toList (by have e : z.cps.toList.length = z.length := by simp [Str.length]
                                           omega)
  rwa [ztd] at this
def badN (v:V3):List V3:=[.str ("" :Str),.str ("Aa" :Str),.str ("1a" :Str),.str ("a_b" :Str),.str ("abcdefghi" :Str),.str ("a b" :Str),.int 7,.non,.bl true,.lst [v],.tup [v],.str ("a~" :Str),.dT []]
theorem zo3 {k:Nat} {v:V3} (hv:Pv k v): ∀x∈badN v,Pv (k+1) x:=by
 intro x hx
 unfold badN at hx
 simp only [List.mem_cons,List.not_mem_nil,or_false] at hx
 rcases hx with rfl | rfl | rfl | rfl | rfl | rfl | rfl | rfl | rfl | rfl | rfl | rfl | rfl
 ·exact tx_s _ (by decide+kernel)
 ·exact tx_s _ (by decide+kernel)
 ·exact tx_s _ (by decide+kernel)
 ·exact tx_s _ (by decide+kernel)
 ·exact tx_s _ (by decide+kernel)
 ·exact tx_s _ (by decide+kernel)
 ·exact .int _
 ·exact .non
 ·exact .bl _
 ·exact .lst v k (by omega) hv.rx
 ·exact .tup v k (by omega) hv.rx
 ·exact tx_s _ (by decide+kernel)
 ·exact .dict (by omega)
theorem sz13:(13≤sizeLine)=True:=eq_true (by have:=yr;omega)
theorem sz11:(11≤sizeLine)=True:=eq_true (by have:=yr;omega)
theorem zl6 {k:Nat} {v:V3} (hv:Pv k v) (n:Int) (h:H3): ∃y,Pv (k+1) y∧zbg [.int n,v] h= .ok (.v y) h:=by
 obtain ⟨y,e,hy⟩:=zhg (l:=badN v) (m:=n % 13) ⟨by omega,by show n % 13 < 13;omega⟩
 refine ⟨y,zo3 hv y hy,?_⟩
 refine zgl (Q:=fun R=>R= .ok (.v y) h) rfl ?_
 unfold zcp
 refine yE (Q:=fun R=>R= .ok (.v y) h) (s1:=[some (.v (.int n)),some (.v v),some (.m (.lst (badN v)))]) (h1:=h) (by (simp_arith [eDnT,sz13]) <;> rfl) ?_
 have hl:(badN v).length=13:=rfl
 generalize badN v=B at*
 (simp_arith [hl,e,zhx]) <;> rfl
def badU (lo hi far:Int):List V3:=[.int (lo - 1),.int (hi+1),.int (lo - 1 - far),.int (hi+1+far),.bl true,.bl false,.non,.str ("7" :Str),.lst [.int 5],.tup [.int 5],.dT []]
theorem znj (i:Int):Rx 0 (.int i):=(Pv.int i).rx
theorem zop (lo hi far:Int): ∀x∈badU lo hi far,Pv 1 x:=by
 intro x hx
 unfold badU at hx
 simp only [List.mem_cons,List.not_mem_nil,or_false] at hx
 rcases hx with rfl | rfl | rfl | rfl | rfl | rfl | rfl | rfl | rfl | rfl | rfl
 ·exact .int _
 ·exact .int _
 ·exact .int _
 ·exact .int _
 ·exact .bl _
 ·exact .bl _
 ·exact .non
 ·exact tx_s _ (by decide+kernel)
 ·exact .lst _ 0 (by omega) (znj _)
 ·exact .tup _ 0 (by omega) (znj _)
 ·exact .dict (by omega)
theorem bu_1 {p n:Int} {x2 x3 x4:Option Vl} (h:H3) {lo:Int} (e:atI [V3.int 0,.int (-1),.int 1,.int 1] p=some (.int lo)):sSet 2 (eOp zE (pE (eLst (aCons (pE (eC (.int 0))) (aCons (pE (eNeg (pE (eC (.int 1))))) (aCons (pE (eC (.int 1))) (aCons (pE (eC (.int 1))) aNil)))))) (pV 1)) [some (.v (.int n)),some (.v (.int p)),x2,x3,x4] h= .nx [some (.v (.int n)),some (.v (.int p)),some (.v (.int lo)),x3,x4] h:=by
 (simp_arith [e]) <;> rfl
theorem bu_2 {p n:Int} {x2 x3 x4:Option Vl} (h:H3) {hi:Int} (e:atI [V3.int 1000000000,.int 10000000000,.int 60,.int 16] p=some (.int hi)):sSet 3 (eOp zE (pE (eLst (aCons (pE (eOp zF (pE (eC (.int 10))) (pE (eC (.int 9))))) (aCons (pE (eOp zF (pE (eC (.int 10))) (pE (eC (.int 10))))) (aCons (pE (eC (.int 60))) (aCons (pE (eC (.int 16))) aNil)))))) (pV 1)) [some (.v (.int n)),some (.v (.int p)),x2,x3,x4] h= .nx [some (.v (.int n)),some (.v (.int p)),x2,some (.v (.int hi)),x4] h:=by
 (simp_arith [e,p9,p10]) <;> rfl
theorem p18 (s:S3) (h:H3):zC s h (.x (.int 1000000000)) (.x (.int 1000000000))=some (.v (.int 1000000000000000000)):=by rw [oMul_int (zfg ⟨by decide,by decide⟩)];rfl
theorem bu_3 {p n:Int} {x2 x3 x4:Option Vl} (h:H3):sSet 4 (eOp zn (pE (eOp oDiv (pV 0) (pE (eC (.int 16))))) (pE (eOp zC (pE (eOp zF (pE (eC (.int 10))) (pE (eC (.int 9))))) (pE (eOp zF (pE (eC (.int 10))) (pE (eC (.int 9)))))))) [some (.v (.int n)),some (.v (.int p)),x2,x3,x4] h= .nx [some (.v (.int n)),some (.v (.int p)),x2,x3,some (.v (.int (n / 16 % 1000000000000000000)))] h:=by
 (simp_arith [p9,p18]) <;> rfl
theorem bu_4 {p n lo hi far:Int} (h:H3) {y:V3} (e:atI (badU lo hi far) (n % 11)=some y):sRet (eOp zE (pE (eLst (aCons (pE (eOp zY (pV 2) (pE (eC (.int 1))))) (aCons (pE (eOp zl (pV 3) (pE (eC (.int 1))))) (aCons (pE (eOp zY (pE (eOp zY (pV 2) (pE (eC (.int 1))))) (pV 4))) (aCons (pE (eOp zl (pE (eOp zl (pV 3) (pE (eC (.int 1))))) (pV 4))) (aCons (pE (eC (.bl true))) (aCons (pE (eC (.bl false))) (aCons (pE (eC .non)) (aCons (pE (eC (.str ("7" :Str)))) (aCons (pE (eLst (aCons (pE (eC (.int 5))) aNil))) (aCons (pE (eTup (aCons (pE (eC (.int 5))) aNil))) (aCons (pE eDnT) aNil))))))))))))) (pE (eOp zn (pV 0) (pE (eC (.int 11)))))) [some (.v (.int n)),some (.v (.int p)),some (.v (.int lo)),some (.v (.int hi)),some (.v (.int far))] h= .rt (.v y) h:=by
 unfold badU at e
 (simp_arith [eDnT,sz11,e]) <;> rfl
theorem zdd (p n:Int) (hp:0≤p∧p≤3) (h:H3): ∃y,Pv 1 y∧za9 [.int n,.int p] h= .ok (.v y) h:=by
 have hx: ∃lo hi,atI [V3.int 0,.int (-1),.int 1,.int 1] p=some (.int lo)∧atI [V3.int 1000000000,.int 10000000000,.int 60,.int 16] p=some (.int hi):=by
  have:p=0∨p=1∨p=2∨p=3:=by omega
  rcases this with rfl | rfl | rfl | rfl <;> exact ⟨_,_,rfl,rfl⟩
 obtain ⟨lo,hi,e1,e2⟩:=hx
 obtain ⟨y,e,hy⟩:=zhg (l:=badU lo hi (n / 16 % 1000000000000000000)) (m:=n % 11) ⟨by omega,by show n % 11 < 11;omega⟩
 refine ⟨y,zop _ _ _ y hy,?_⟩
 refine zgl (Q:=fun R=>R= .ok (.v y) h) rfl ?_
 unfold zbz
 refine yE (Q:=fun R=>R= .ok (.v y) h) (bu_1 h e1) ?_
 refine yE (Q:=fun R=>R= .ok (.v y) h) (bu_2 h e2) ?_
 refine yE (Q:=fun R=>R= .ok (.v y) h) (bu_3 h) ?_
 rw [bu_4 h e];rfl
abbrev spS (L:List V3) (c at_ way n:Int) (a b d e f:V3):S3:=[some (.v (.lst L)),some (.v (.int c)),some (.v (.int at_)),some (.v (.int way)),some (.v (.int n)),some (.m (.lst [a,b,d,e,f]))]
def spI:D3:=(sIf (tE (eOp yU (pV 3) (pE (eC (.int 0))))) (sSeq (sFz 4) (yS (pV 5) (pE (eC (.int 0))) (eCall zbg (aCons (pV 4) (aCons (pE (eOp zE (pV 5) (pE (eC (.int 0))))) aNil))))) (sIf (tE (eOp yU (pV 3) (pE (eC (.int 1))))) (yS (pV 5) (pE (eC (.int 0))) (eOp zE (pE (eOp zE (pV 0) (pE (eOp zn (pV 4) (pE (eB bLen (aCons (pV 0) aNil))))))) (pE (eC (.int 0))))) (sSeq (sFz 4) (yS (pV 5) (pE (eOp zY (pV 3) (pE (eC (.int 1))))) (eCall za9 (aCons (pV 4) (aCons (pE (eOp zY (pV 3) (pE (eC (.int 2))))) aNil)))))))
theorem ziv:yn 5 0=some 0:=by unfold yn;simp
theorem zjb:yn 5 1=some 1:=by unfold yn;simp
theorem zjd:yn 5 2=some 2:=by unfold yn;simp
theorem zi0:yn 5 3=some 3:=by unfold yn;simp
theorem zi2:yn 5 4=some 4:=by unfold yn;simp
theorem zs4 {k:Nat} {js:List Jv} (ho: ∀j∈js,j.Ok k) (hk:1≤k) (hl:0 < js.length) {j:Jv} (o:j.Ok k) (c at_ way n:Int) (hw:0≤way∧way < 6) (h:H3): ∃j':Jv,j'.Ok (k+1)∧spI (spS (js.map Jv.enc) c at_ way n j.n j.f j.l j.w j.b) h= .nx (spS (js.map Jv.enc) c at_ way n j'.n j'.f j'.l j'.w j'.b) h:=by
 have m1: ∀{v:V3},Pv k v→Pv (k+1) v:=fun z=>z.mono (by omega)
 have m2: ∀{v:V3},Pv 1 v→Pv (k+1) v:=fun z=>z.mono (by omega)
 have hc:way=0∨way=1∨way=2∨way=3∨way=4∨way=5:=by omega
 rcases hc with rfl | rfl | rfl | rfl | rfl | rfl
 ·obtain ⟨y,hy,e⟩:=zl6 o.n n h
  refine ⟨⟨y,j.f,j.l,j.w,j.b⟩,⟨hy,m1 o.f,m1 o.l,m1 o.w,m1 o.b⟩,?_⟩
  unfold spI
  (simp_arith [yS,ziv,zjb,zjd,zi0,zi2,List.set,e,zhx,oEq_int,decide_true]) <;> rfl
 ·obtain ⟨v,e,hv⟩:=zhg (l:=js.map Jv.enc) (m:=n % ((js.map Jv.enc).length:Int)) ⟨Int.emod_nonneg _ (by rw [List.length_map];omega),Int.emod_lt_of_pos _ (by rw [List.length_map];omega)⟩
  obtain ⟨i,hi,rfl⟩:=List.mem_map.1 hv
  refine ⟨⟨i.n,j.f,j.l,j.w,j.b⟩,⟨m1 (ho i hi).n,m1 o.f,m1 o.l,m1 o.w,m1 o.b⟩,?_⟩
  have hl':(0:Int) < ((js.map Jv.enc).length:Int):=by rw [List.length_map];omega
  unfold spI
  generalize js.map Jv.enc=L at*
  (simp_arith [yS,ziv,zjb,zjd,zi0,zi2,List.set,e,zhx,oEq_int,oMod_int hl',decide_true,Jv.enc]) <;> rfl
 ·obtain ⟨y,hy,e⟩:=zdd 0 n (by decide) h
  refine ⟨⟨j.n,y,j.l,j.w,j.b⟩,⟨m1 o.n,m2 hy,m1 o.l,m1 o.w,m1 o.b⟩,?_⟩
  unfold spI
  (simp_arith [yS,ziv,zjb,zjd,zi0,zi2,List.set,e,zhx,oEq_int,decide_true,Int.reduceSub]) <;> rfl
 ·obtain ⟨y,hy,e⟩:=zdd 1 n (by decide) h
  refine ⟨⟨j.n,j.f,y,j.w,j.b⟩,⟨m1 o.n,m1 o.f,m2 hy,m1 o.w,m1 o.b⟩,?_⟩
  unfold spI
  (simp_arith [yS,ziv,zjb,zjd,zi0,zi2,List.set,e,zhx,oEq_int,decide_true,Int.reduceSub]) <;> rfl
 ·obtain ⟨y,hy,e⟩:=zdd 2 n (by decide) h
  refine ⟨⟨j.n,j.f,j.l,y,j.b⟩,⟨m1 o.n,m1 o.f,m1 o.l,m2 hy,m1 o.b⟩,?_⟩
  unfold spI
  (simp_arith [yS,ziv,zjb,zjd,zi0,zi2,List.set,e,zhx,oEq_int,decide_true,Int.reduceSub]) <;> rfl
 ·obtain ⟨y,hy,e⟩:=zdd 3 n (by decide) h
  refine ⟨⟨j.n,j.f,j.l,j.w,y⟩,⟨m1 o.n,m1 o.f,m1 o.l,m1 o.w,m2 hy⟩,?_⟩
  unfold spI
  (simp_arith [yS,ziv,zjb,zjd,zi0,zi2,List.set,e,zhx,oEq_int,decide_true,Int.reduceSub]) <;> rfl
theorem zsf (L:List V3) (c way n:Int) (k:Nat) (a b d e f:V3) (hl:L.length≤100) (h:H3):sRet (eOp zl (pE (eOp zl (pE (eSl (pV 0) poN (qm (pV 2)))) (pE (eLst (aCons (pE (eB zk6 (aCons (pV 5) aNil))) aNil))))) (pE (eSl (pV 0) (qm (pE (eOp zl (pV 2) (pE (eC (.int 1)))))) poN))) (spS L c (k:Int) way n a b d e f) h= .rt (.m (.lst ((L.take k++[.tup [a,b,d,e,f]])++L.drop (k+1)))) h:=by
 have s1:=zp5 L k
 have s2:=zkd L (k+1)
 have q1:(L.take k).length+[V3.tup [a,b,d,e,f]].length≤sizeLine:=by have:=yr;rw [List.length_take,List.length_singleton];omega
 have q2:(L.take k++[V3.tup [a,b,d,e,f]]).length+(L.drop (k+1)).length≤sizeLine:=by have:=yr;rw [List.length_append,List.length_take,List.length_singleton,List.length_drop];omega
 have ec:(((k+1:Nat)):Int)=(k:Int)+1:=by omega
 rw [ec] at s2
 have oa: ∀{s:S3} {xs ys:List V3},xs.length+ys.length≤sizeLine→zl s h (.x (.lst xs)) (.x (.lst ys))=some (.m (.lst (xs++ys))):=fun {s xs ys} hl=>by
  unfold zl yN zkw oI zkq oCat
  simp only [rdm,rdl,if_pos hl]
 generalize ((k:Nat):Int)=K at*
 (simp_arith [eSl,poN,qm,oSl,zk6,s1,s2,oa q1,oa q2,Option.map_some]) <;> rfl
theorem zqy {k:Nat} {js:List Jv} (ho: ∀j∈js,j.Ok k) (hk:1≤k) (hl:0 < js.length) (hl2:js.length≤15) (c:Int) (h:H3): ∃js':List Jv,js'.length=js.length∧(∀j∈js',j.Ok (k+1))∧zbv [.lst (js.map Jv.enc),.int c] h= .ok (.m (.lst (js'.map Jv.enc))) h:=by
 have hp:(0:Int) < ((js.map Jv.enc).length:Int):=by rw [List.length_map];omega
 have hm:0≤zQ c 1 % ((js.map Jv.enc).length:Int)∧zQ c 1 % ((js.map Jv.enc).length:Int) < (js.length:Int):=⟨Int.emod_nonneg _ (by omega),by have:=Int.emod_lt_of_pos (zQ c 1) hp;rw [List.length_map] at this ⊢;exact this⟩
 obtain ⟨a,ea⟩: ∃a:Nat,zQ c 1 % ((js.map Jv.enc).length:Int)=(a:Int):=⟨(zQ c 1 % ((js.map Jv.enc).length:Int)).toNat,by omega⟩
 rw [ea] at hm
 have hal:a < js.length:=by omega
 have hj:=ho js[a] (List.getElem_mem hal)
 have hat:atI (js.map Jv.enc) (a:Int)=some (js[a]).enc:=qe (by rw [List.getElem?_map,zR hal];rfl)
 obtain ⟨j',hj',e5⟩:=zs4 ho hk hl hj c (a:Int) (zQ c 2 % 6) (zQ c 3*2147483629+zQ c 4) ⟨by omega,by omega⟩ h
 refine ⟨(js.take a++[j'])++js.drop (a+1),?_,?_,?_⟩
 ·rw [List.length_append,List.length_append,List.length_take,List.length_singleton,List.length_drop];omega
 ·intro j hj
  rw [List.mem_append,List.mem_append,List.mem_singleton] at hj
  have up: ∀j:Jv,j.Ok k→j.Ok (k+1):=fun j o=>⟨o.n.mono (by omega),o.f.mono (by omega),o.l.mono (by omega),o.w.mono (by omega),o.b.mono (by omega)⟩
  rcases hj with (hj | rfl) | hj
  ·exact up j (ho j (List.mem_of_mem_take hj))
  ·exact hj'
  ·exact up j (ho j (List.mem_of_mem_drop hj))
 ·have c1:CMul (zQ c 3) 2147483629:=zj0 ⟨by decide,by decide⟩
  generalize hR:Res.ok (Vl.m (.lst (((js.take a++[j'])++js.drop (a+1)).map Jv.enc))) h=RR
  refine zgl (Q:=fun R=>R=RR) rfl ?_
  unfold zc4
  refine yE (Q:=fun R=>R=RR) (s1:=[some (.v (.lst (js.map Jv.enc))),some (.v (.int c)),some (.v (.int (a:Int))),none,none,none]) (h1:=h) ?_ ?_
  ·generalize js.map Jv.enc=L at*
   generalize ((a:Nat):Int)=A at*
   (simp_arith [zav,oMod_int hp,ea]) <;> rfl
  refine yE (Q:=fun R=>R=RR) (s1:=[some (.v (.lst (js.map Jv.enc))),some (.v (.int c)),some (.v (.int (a:Int))),some (.v (.int (zQ c 2 % 6))),none,none]) (h1:=h) ?_ ?_
  ·(simp_arith [zav]) <;> rfl
  refine yE (Q:=fun R=>R=RR) (s1:=[some (.v (.lst (js.map Jv.enc))),some (.v (.int c)),some (.v (.int (a:Int))),some (.v (.int (zQ c 2 % 6))),some (.v (.int (zQ c 3*2147483629+zQ c 4))),none]) (h1:=h) ?_ ?_
  ·(simp_arith [zav,c1]) <;> rfl
  refine yE (Q:=fun R=>R=RR) (s1:=spS (js.map Jv.enc) c (a:Int) (zQ c 2 % 6) (zQ c 3*2147483629+zQ c 4) js[a].n js[a].f js[a].l js[a].w js[a].b) (h1:=h) ?_ ?_
  ·generalize js[a]=J at*
   generalize js.map Jv.enc=L at*
   generalize ((a:Nat):Int)=A at*
   (simp_arith [hat,Jv.enc]) <;> rfl
  refine yE (Q:=fun R=>R=RR) e5 ?_
  rw [zsf _ _ _ _ _ _ _ _ _ _ (by rw [List.length_map];omega),←hR,List.map_append,List.map_append,List.map_take,List.map_drop]
  rfl
abbrev yT (ns:List Int) (x1 x2 x3 x4 x5 x6 x7:Option Vl):S3:=[some (.v (.scr ns)),x1,x2,x3,x4,x5,x6,x7]
theorem zoi (ns:List Int) (c M:Int) (hM:0≤M∧M≤15) (x1 x4 x5 x6 x7:Option Vl) (h:H3): ∃js:List Jv,js.length≤15∧(∀j∈js,j.Ok 1)∧zeu (yT ns x1 (some (.v (.int c))) (some (.v (.int M))) x4 x5 x6 x7) h= .ok (.m (.lst (js.map Jv.enc))) h:=by
 have hj:=fun k:Nat=>zo9 c (k:Int) h
 refine ⟨(List.range M.toNat).map fun k=>Classical.choose (hj k),by rw [List.length_map,List.length_range];omega,?_,?_⟩
 ·intro j hm
  obtain ⟨k,_,rfl⟩:=List.mem_map.1 hm
  exact (Classical.choose_spec (hj k)).1
 ·unfold zeu
  rw [List.map_map]
  refine zi5 (fun s=> ∃a,s=[a,some (.v (.int c))]) _ (by (simp_arith []) <;> rfl) (by omega) ⟨none,rfl⟩ ?_
  rintro k s hk ⟨a,rfl⟩
  have e:=(Classical.choose_spec (hj k)).2
  refine ⟨_,.v (Classical.choose (hj k)).enc,by (simp_arith []) <;> rfl,⟨_,rfl⟩,?_,rfl⟩
  generalize Classical.choose (hj k)=J at*
  generalize ((k:Nat):Int)=K at*
  (simp_arith [e]) <;> rfl
theorem zpy {α:Type} (xs:List α) {a b:Int} (ha:0≤a) (hb:a≤b) (hd:b≤a+3):(zJ xs (some a) (some b)).length≤3:=by
 unfold zJ HT.sIx
 rw [List.length_take]
 simp only [if_neg (show ¬a < 0 by omega),if_neg (show ¬b < 0 by omega)]
 omega
theorem zo8 {α β:Type} (f:α→β) (xs:List α) (lo hi:Option Int):zJ (xs.map f) lo hi=(zJ xs lo hi).map f:=by
 unfold zJ;rw [List.length_map,List.map_take,List.map_drop]
abbrev lwL (ns:List Int) (k:Int) (c M:Int) (xs:List V3) (x5 x6 x7:Option Vl):S3:=yT ns (some (.v (.int k))) (some (.v (.int c))) (some (.v (.int M))) (some (.m (.lst xs))) x5 x6 x7
theorem fz4 {ns:List Int} {k c M:Int} {xs:List V3} {x5 x6 x7:Option Vl} {h:H3}:sFz 4 (yT ns (some (.v (.int k))) (some (.v (.int c))) (some (.v (.int M))) (some (.m (.lst xs))) x5 x6 x7) h= .nx (yT ns (some (.v (.int k))) (some (.v (.int c))) (some (.v (.int M))) (some (.v (.lst xs))) x5 x6 x7) h:=by
 (simp_arith []) <;> rfl
theorem zml (ns:List Int) (k c M:Int) (hk:0≤k) (js:List Jv) (ho: ∀j∈js,j.Ok 1) (hl:js.length≤15) (x5 x6 x7:Option Vl) (h:H3): ∃js':List Jv,(∀j∈js',j.Ok 4)∧∃y5,zgd (lwL ns k c M (js.map Jv.enc) x5 x6 x7) h= .nx (lwL ns k c M (js'.map Jv.enc) y5 x6 x7) h:=by
 have c1:CMul 3 k:=zfg ⟨by decide,by decide⟩
 have hb:=zr2 c 8
 have hlen:(zJ ns (some (4+3*k)) (some (4+3*k+zQ c 8 % 4))).length≤3:=zpy ns (by omega) (by omega) (by omega)
 have ec:=zo8 V3.int ns (some (4+3*k)) (some (4+3*k+zQ c 8 % 4))
 generalize hcl:zJ ns (some (4+3*k)) (some (4+3*k+zQ c 8 % 4))=l at*
 have:=zkc (p:=(pE (eSl (pV 0) (qm (pE (eOp zl (pE (eC (.int 4))) (pE (eOp zC (pE (eC (.int 3))) (pV 1)))))) (qm (pE (eOp zl (pE (eOp zl (pE (eC (.int 4))) (pE (eOp zC (pE (eC (.int 3))) (pV 1))))) (pE (eOp zn (pE (eCall yu (aCons (pV 2) (aCons (pE (eC (.int 8))) aNil)))) (pE (eC (.int 4)))))))))))
  (g:=gN 5) (b:=(sIf (tE (eOp yk (pV 4) (pE (eLst aNil)))) (sSeq (sFz 4) (sSet 4 (eCall zbv (aCons (pV 4) (aCons (pV 5) aNil))))) sSkip))
  (s:=lwL ns k c M (js.map Jv.enc) x5 x6 x7) (h:=h) (x:= .lst (l.map V3.int)) (ok:=fun _=>True) (enc:=V3.int) (l:=l)
  (by (simp_arith [eSl,qm,zav,c1,oSl,ec,Option.map_some]) <;> rfl) rfl
  (fun i s=> ∃js':List Jv,js'.length≤15∧(∀j∈js',j.Ok (1+i))∧∃y5,s=lwL ns k c M (js'.map Jv.enc) y5 x6 x7) ⟨js,hl,ho,x5,rfl⟩ (by
   rintro i a s hi ⟨js1,hl1,ho1,y5,rfl⟩
   by_cases he:js1=[]
   ·subst he
    refine ⟨_,?_,[],by simp,by simp,some (.v (.int a)),rfl⟩
    have hn: ∀y,yk (lwL ns k c M [] y x6 x7) h (.s 4) (.x (.lst []))=some (.v (.bl false)):=fun y=>zki (zq9 (xs:=[]) rfl)
    (simp_arith [hn]) <;> rfl
   ·obtain ⟨js2,hl2,ho2,e⟩:=zqy ho1 (by omega) (by cases js1 with | nil=>exact absurd rfl he | cons _ _=>simp) hl1 a h
    refine ⟨_,?_,js2,by omega,ho2,some (.v (.int a)),rfl⟩
    have hne:(js1.map Jv.enc).isEmpty=false:=by cases js1 with | nil=>exact absurd rfl he | cons _ _=>rfl
    have hn: ∀y,yk (lwL ns k c M (js1.map Jv.enc) y x6 x7) h (.s 4) (.x (.lst []))=some (.v (.bl true)):=fun y=>by rw [zki (zq9 rfl),hne];rfl
    generalize js1.map Jv.enc=L1 at*
    generalize js2.map Jv.enc=L2 at*
    (simp_arith [hn,e]) <;> rfl)
 obtain ⟨s',e,js',_,ho',y5,rfl⟩:=this
 exact ⟨js',fun j hj=>by have o:=ho' j hj;exact ⟨o.n.mono (by omega),o.f.mono (by omega),o.l.mono (by omega),o.w.mono (by omega),o.b.mono (by omega)⟩,y5,e⟩
theorem zpt {js:List Jv} (ho: ∀j∈js,j.Ok 4) (h:H3): ∀x∈js.map Jv.enc,zp h 8 x x=some true:=by
 intro x hx
 obtain ⟨j,hj,rfl⟩:=List.mem_map.1 hx
 have o:=ho j hj
 refine zho (n:=7) fun y hy=>?_
 simp only [List.mem_cons,List.not_mem_nil,or_false] at hy
 rcases hy with rfl | rfl | rfl | rfl | rfl
 ·exact o.n.rx h 7 (by decide)
 ·exact o.f.rx h 7 (by decide)
 ·exact o.l.rx h 7 (by decide)
 ·exact o.w.rx h 7 (by decide)
 ·exact o.b.rx h 7 (by decide)
def lwI:D3:=(sIf (tOr3 (tE (eOp yk (pE (eCall yI (aCons (pV 6) aNil))) (pV 7))) (tOr3 (tE (eOp yk (pV 6) (pV 4))) (tE (eOp yk (pE (eCall yI (aCons (pV 6) aNil))) (pV 7))))) (sRet (eC (.bl false))) sSkip)
theorem zsv {L:List V3} {d:Dt} {h:H3} (e:yI [.lst L] h= .ok (.v (z0 d)) h) (q: ∀x∈L,zp h 8 x x=some true) (x0 x1 x2 x3 x5:Option Vl):lwI [x0,x1,x2,x3,some (.v (.lst L)),x5,some (.v (.lst L)),some (.v (z0 d))] h= .nx [x0,x1,x2,x3,some (.v (.lst L)),x5,some (.v (.lst L)),some (.v (z0 d))] h:=by
 have r:=fun (s:S3)=>zme (s:=s) (f:= .x (.lst L)) (g:= .x (.lst L)) (h:=h) (xs:=L) rfl rfl q
 have n:=fun (s:S3)=>zs8 d s h
 generalize z0 d=D at*
 unfold lwI
 (simp_arith [e,r,n]) <;> rfl
theorem zoa (ns:List Int) (k:Nat) (x1 x2 x3 x4 x5 x6 x7:Option Vl) (h:H3): ∃y1 y2 y3 y4 y5 y6 y7,gb (gN 1) (sSeq (sSet 2 (eCall za7 (aCons (pV 0) (aCons (pV 1) aNil)))) (sSeq (sFz 2) (sSeq (sSet 3 (eOp zE (pE (eLst (aCons (pE (eOp zn (pE (eCall yu (aCons (pV 2) (aCons (pE (eC (.int 5))) aNil)))) (pE (eC (.int 13))))) (aCons (pE (eOp zn (pE (eCall yu (aCons (pV 2) (aCons (pE (eC (.int 6))) aNil)))) (pE (eC (.int 16))))) aNil)))) (pE (eOp zn (pE (eCall yu (aCons (pV 2) (aCons (pE (eC (.int 7))) aNil)))) (pE (eC (.int 2))))))) (sSeq (sFz 2) (sSeq (sSet 4 zeu) (sSeq (sFz 2) (sSeq zgd (sSeq (sSet 6 (eB bList (aCons (pV 4) aNil))) (sSeq (sFz 4) (sSeq (sSet 7 (eCall zcs (aCons (pV 4) aNil))) (sSeq (sFz 6) lwI))))))))))) (.int (k:Int)) (yT ns x1 x2 x3 x4 x5 x6 x7) h= .nx (yT ns y1 y2 y3 y4 y5 y6 y7) h:=by
 have ecell:=zef ns k h
 generalize cell ns k=c at*
 have hk:(0:Int)≤(k:Int):=by omega
 generalize ((k:Nat):Int)=K at*
 obtain ⟨M,hM,eM⟩: ∃M:Int,(0≤M∧M≤15)∧atI [V3.int (zQ c 5 % 13),.int (zQ c 6 % 16)] (zQ c 7 % 2)=some (.int M):=by
  have h2:zQ c 7 % 2=0∨zQ c 7 % 2=1:=by omega
  rcases h2 with h2 | h2 <;> rw [h2]
  ·exact ⟨_,⟨by omega,by omega⟩,rfl⟩
  ·exact ⟨_,⟨by omega,by omega⟩,rfl⟩
 obtain ⟨js,hl,ho,ec⟩:=zoi ns c M hM (some (.v (.int K))) x4 x5 x6 x7 h
 obtain ⟨js',ho',y5,el⟩:=zml ns K c M hk js ho hl x5 x6 x7 h
 have ed:=zqw ho' h
 have et:=zkt ho' h
 have q:=zpt ho' h
 refine ⟨some (.v (.int K)),some (.v (.int c)),some (.v (.int M)),some (.v (.lst (js'.map Jv.enc))),y5,some (.v (.lst (js'.map Jv.enc))),some (.v (z0 (ye js'))),?_⟩
 rw [gb_n (by show 1 < 8;decide)]
 rw [yW (s1:=yT ns (some (.v (.int K))) (some (.v (.int c))) x3 x4 x5 x6 x7) (h1:=h) (by (simp_arith [ecell]) <;> rfl)]
 rw [yW (s1:=yT ns (some (.v (.int K))) (some (.v (.int c))) x3 x4 x5 x6 x7) (h1:=h) (by (simp_arith []) <;> rfl)]
 rw [yW (s1:=yT ns (some (.v (.int K))) (some (.v (.int c))) (some (.v (.int M))) x4 x5 x6 x7) (h1:=h) (by (simp_arith [zav,eM]) <;> rfl)]
 rw [yW (s1:=yT ns (some (.v (.int K))) (some (.v (.int c))) (some (.v (.int M))) x4 x5 x6 x7) (h1:=h) (by (simp_arith []) <;> rfl)]
 rw [yW (s1:=lwL ns K c M (js.map Jv.enc) x5 x6 x7) (h1:=h) (by unfold sSet;rw [ec];rfl)]
 rw [yW (s1:=lwL ns K c M (js.map Jv.enc) x5 x6 x7) (h1:=h) (by (simp_arith []) <;> rfl)]
 rw [yW el]
 generalize js'.map Jv.enc=L at*
 rw [yW (s1:=yT ns (some (.v (.int K))) (some (.v (.int c))) (some (.v (.int M))) (some (.m (.lst L))) y5 (some (.m (.lst L))) x7) (h1:=h) (by (simp_arith []) <;> rfl)]
 rw [yW fz4]
 rw [yW (s1:=yT ns (some (.v (.int K))) (some (.v (.int c))) (some (.v (.int M))) (some (.v (.lst L))) y5 (some (.m (.lst L))) (some (.v (z0 (ye js'))))) (h1:=h) (by generalize z0 (ye js')=D at*;(simp_arith [ed]) <;> rfl)]
 rw [yW (s1:=yT ns (some (.v (.int K))) (some (.v (.int c))) (some (.v (.int M))) (some (.v (.lst L))) y5 (some (.v (.lst L))) (some (.v (z0 (ye js'))))) (h1:=h) (by generalize z0 (ye js')=D at*;(simp_arith []) <;> rfl)]
 exact zsv et q _ _ _ _ _
theorem law_yes (ns:List Int) (hn:ns.length≤63): ∃h',f_law [.scr ns] []= .ok (.v (.bl true)) h':=by
 show Yes _
 unfold f_law zou zhr
 refine zgl rfl ?_
 refine zlq (j:=4) (by (simp_arith []) <;> rfl) (by decide) (fun i s=> ∃y1 y2 y3 y4 y5 y6 y7,s=yT ns y1 y2 y3 y4 y5 y6 y7) ⟨none,none,none,none,none,none,none,rfl⟩ ?_ ?_
 ·rintro i s hi ⟨x1,x2,x3,x4,x5,x6,x7,rfl⟩
  obtain ⟨y1,y2,y3,y4,y5,y6,y7,e⟩:=zoa ns i x1 x2 x3 x4 x5 x6 x7 []
  exact ⟨_,e,y1,y2,y3,y4,y5,y6,y7,rfl⟩
 ·rintro s ⟨y1,y2,y3,y4,y5,y6,y7,rfl⟩
  have e:yI [.lst []] []= .ok (.v (z0 .good)) []:=zkt (k:=1) (js:=[]) (by simp) []
  have q:=fun (s:S3)=>zrs .good s []
  have hd:z0 .good= .tup [.str ("good" :Str),.non]:=rfl
  rw [hd] at e q
  exact ⟨[],by (simp_arith [e,q]) <;> rfl⟩
end My
namespace My
open PySem PySem.Spec PyProof.Rows L2 L3
theorem law_true: ∀ns:List Int,ns.length≤63→∃h',f_law [.scr ns] []= .ok (.v (.bl true)) h':=law_yes
theorem txt {K:PySem.W.Frag} {mg:Str→Option Value} {h:Heap} (X:K.In h) (G:h.Ns mainGlobals mg) (S:L4.seenK ask K=L4.good PySem.Challenge.pw_dueyard_k13_loads_refused ask): ∃_:Txt K mg,True:=by
 obtain ⟨f0,d0,a0,F0⟩:=L4.def_at S 0 rfl
 obtain ⟨f1,d1,a1,F1⟩:=L4.def_at S 1 rfl
 obtain ⟨f2,d2,a2,F2⟩:=L4.def_at S 2 rfl
 obtain ⟨f3,d3,a3,F3⟩:=L4.def_at S 3 rfl
 obtain ⟨f4,d4,a4,F4⟩:=L4.def_at S 4 rfl
 obtain ⟨f5,d5,a5,F5⟩:=L4.def_at S 5 rfl
 obtain ⟨f6,d6,a6,F6⟩:=L4.def_at S 6 rfl
 obtain ⟨f7,d7,a7,F7⟩:=L4.def_at S 7 rfl
 obtain ⟨f8,d8,a8,F8⟩:=L4.def_at S 8 rfl
 obtain ⟨f9,d9,a9,F9⟩:=L4.def_at S 9 rfl
 obtain ⟨f10,d10,a10,F10⟩:=L4.def_at S 10 rfl
 obtain ⟨f11,d11,a11,F11⟩:=L4.def_at S 11 rfl
 obtain ⟨f12,d12,a12,F12⟩:=L4.def_at S 12 rfl
 obtain ⟨f13,d13,a13,F13⟩:=L4.def_at S 13 rfl
 obtain ⟨f14,d14,a14,F14⟩:=L4.def_at S 14 rfl
 obtain ⟨f15,d15,a15,F15⟩:=L4.def_at S 15 rfl
 obtain ⟨f16,d16,a16,F16⟩:=L4.def_at S 16 rfl
 obtain ⟨f17,d17,a17,F17⟩:=L4.def_at S 17 rfl
 obtain ⟨f18,d18,a18,F18⟩:=L4.def_at S 18 rfl
 obtain ⟨t0,v0⟩:=L4.int_at S 0 rfl
 obtain ⟨t1,v1⟩:=L4.str_at S 1 rfl
 obtain ⟨t2,v2⟩:=L4.str_at S 2 rfl
 obtain ⟨t3,v3⟩:=L4.int_at S 3 rfl
 obtain ⟨t4,v4⟩:=L4.int_at S 4 rfl
 obtain ⟨t5,v5⟩:=L4.int_at S 5 rfl
 obtain ⟨t6,v6⟩:=L4.int_at S 6 rfl
 obtain ⟨t7,v7⟩:=L4.int_at S 7 rfl
 obtain ⟨E0,h0,x0⟩:=L4.exc_at S 0 rfl
 obtain ⟨E1,h1,x1⟩:=L4.exc_at S 1 rfl
 obtain ⟨E2,h2,x2⟩:=L4.exc_at S 2 rfl
 obtain ⟨E3,h3,x3⟩:=L4.exc_at S 3 rfl
 obtain ⟨E4,h4,x4⟩:=L4.exc_at S 4 rfl
 obtain ⟨EC0,EB0,ef0,ed0,hC0,hB0,xI0,cB0,eF0⟩:=L4.xi_at S 0 rfl
 cases (h4.symm.trans hC0)
 cases (h0.symm.trans hB0)
 exact ⟨⟨f0,d0,⟨F0,L4.b2 F0 fun _ _ _ _ _ _ _ _=>rfl,PySem.W.mg_of X G a0⟩,f1,d1,⟨F1,L4.b1 F1 fun _ _ _ _ _ _ _=>rfl,PySem.W.mg_of X G a1⟩,f2,d2,⟨F2,L4.b3 F2 fun _ _ _ _ _ _ _ _ _=>rfl,PySem.W.mg_of X G a2⟩,f3,d3,⟨F3,L4.b1 F3 fun _ _ _ _ _ _ _=>rfl,PySem.W.mg_of X G a3⟩,f4,d4,⟨F4,L4.b1 F4 fun _ _ _ _ _ _ _=>rfl,PySem.W.mg_of X G a4⟩,f5,d5,⟨F5,L4.b1 F5 fun _ _ _ _ _ _ _=>rfl,PySem.W.mg_of X G a5⟩,f6,d6,⟨F6,L4.b3 F6 fun _ _ _ _ _ _ _ _ _=>rfl,PySem.W.mg_of X G a6⟩,f7,d7,⟨F7,L4.b4 F7 fun _ _ _ _ _ _ _ _ _ _=>rfl,PySem.W.mg_of X G a7⟩,f8,d8,⟨F8,L4.b1 F8 fun _ _ _ _ _ _ _=>rfl,PySem.W.mg_of X G a8⟩,f9,d9,⟨F9,L4.b1 F9 fun _ _ _ _ _ _ _=>rfl,PySem.W.mg_of X G a9⟩,f10,d10,⟨F10,L4.b1 F10 fun _ _ _ _ _ _ _=>rfl,PySem.W.mg_of X G a10⟩,f11,d11,⟨F11,L4.b2 F11 fun _ _ _ _ _ _ _ _=>rfl,PySem.W.mg_of X G a11⟩,f12,d12,⟨F12,L4.b4 F12 fun _ _ _ _ _ _ _ _ _ _=>rfl,PySem.W.mg_of X G a12⟩,f13,d13,⟨F13,L4.b2 F13 fun _ _ _ _ _ _ _ _=>rfl,PySem.W.mg_of X G a13⟩,f14,d14,⟨F14,L4.b2 F14 fun _ _ _ _ _ _ _ _=>rfl,PySem.W.mg_of X G a14⟩,f15,d15,⟨F15,L4.b2 F15 fun _ _ _ _ _ _ _ _=>rfl,PySem.W.mg_of X G a15⟩,f16,d16,⟨F16,L4.b2 F16 fun _ _ _ _ _ _ _ _=>rfl,PySem.W.mg_of X G a16⟩,f17,d17,⟨F17,L4.b2 F17 fun _ _ _ _ _ _ _ _=>rfl,PySem.W.mg_of X G a17⟩,f18,d18,⟨F18,L4.b1 F18 fun _ _ _ _ _ _ _=>rfl,PySem.W.mg_of X G a18⟩,E0,PySem.W.mg_of X G h0,E1,PySem.W.mg_of X G h1,E2,PySem.W.mg_of X G h2,E3,PySem.W.mg_of X G h3,E4,PySem.W.mg_of X G h4,⟨(x1 rfl).1,PySem.W.mg_of X G h1⟩,(x1 rfl).2,⟨(x2 rfl).1,PySem.W.mg_of X G h2⟩,(x2 rfl).2,⟨(x3 rfl).1,PySem.W.mg_of X G h3⟩,(x3 rfl).2,ef0,ed0,xI0,cB0,eF0,L4.b2 eF0 fun _ _ _ _ _ _ _ _=>rfl,(L4.tab_at S 0 rfl h3 h3).1,(L4.tab_at S 0 rfl h3 h3).2,(L4.tab_at S 1 rfl h3 h1).1,(L4.tab_at S 1 rfl h3 h1).2,(L4.tab_at S 2 rfl h3 h4).1,(L4.tab_at S 2 rfl h3 h4).2,(L4.tab_at S 3 rfl h3 h2).1,(L4.tab_at S 3 rfl h3 h2).2,(L4.tab_at S 4 rfl h1 h3).1,(L4.tab_at S 4 rfl h1 h3).2,(L4.tab_at S 5 rfl h1 h1).1,(L4.tab_at S 5 rfl h1 h1).2,(L4.tab_at S 6 rfl h1 h4).1,(L4.tab_at S 6 rfl h1 h4).2,(L4.tab_at S 7 rfl h1 h2).1,(L4.tab_at S 7 rfl h1 h2).2,(L4.tab_at S 8 rfl h4 h3).1,(L4.tab_at S 8 rfl h4 h3).2,(L4.tab_at S 9 rfl h4 h1).1,(L4.tab_at S 9 rfl h4 h1).2,(L4.tab_at S 10 rfl h4 h4).1,(L4.tab_at S 10 rfl h4 h4).2,(L4.tab_at S 11 rfl h4 h2).1,(L4.tab_at S 11 rfl h4 h2).2,(L4.tab_at S 12 rfl h2 h3).1,(L4.tab_at S 12 rfl h2 h3).2,(L4.tab_at S 13 rfl h2 h1).1,(L4.tab_at S 13 rfl h2 h1).2,(L4.tab_at S 14 rfl h2 h4).1,(L4.tab_at S 14 rfl h2 h4).2,(L4.tab_at S 15 rfl h2 h2).1,(L4.tab_at S 15 rfl h2 h2).2,(L4.tab_at S 16 rfl h3 h0).1,(L4.tab_at S 16 rfl h3 h0).2,(L4.tab_at S 17 rfl h1 h0).1,(L4.tab_at S 17 rfl h1 h0).2,(L4.tab_at S 18 rfl h4 h0).1,(L4.tab_at S 18 rfl h4 h0).2,(L4.tab_at S 19 rfl h2 h0).1,(L4.tab_at S 19 rfl h2 h0).2,PySem.W.mg_none_of X G (L4.bare_at S 0 rfl),PySem.W.mg_none_of X G (L4.bare_at S 1 rfl),PySem.W.mg_none_of X G (L4.bare_at S 2 rfl),PySem.W.mg_none_of X G (L4.bare_at S 3 rfl),PySem.W.mg_none_of X G (L4.bare_at S 4 rfl),PySem.W.mg_none_of X G (L4.bare_at S 5 rfl),PySem.W.mg_none_of X G (L4.bare_at S 6 rfl),PySem.W.mg_none_of X G (L4.bare_at S 7 rfl),PySem.W.mg_none_of X G (L4.bare_at S 8 rfl),PySem.W.mg_none_of X G (L4.bare_at S 9 rfl),t0,PySem.W.mg_of X G v0,t1,PySem.W.mg_of X G v1,t2,PySem.W.mg_of X G v2,t3,PySem.W.mg_of X G v3,t4,PySem.W.mg_of X G v4,t5,PySem.W.mg_of X G v5,t6,PySem.W.mg_of X G v6,t7,PySem.W.mg_of X G v7⟩,trivial⟩
def d_law:PySem.DefRec:=⟨"law",zem (yb 35),zcn (yb 35),zx (yb 35),⟨145,0,157,42⟩⟩
end My
open PySem PySem.W PyProof.Rows
set_option maxRecDepth 100000 in
set_option maxHeartbeats 0 in
theorem PySem.Challenge.cw_dueyard_k13_loads_refused_holds : PySem.Challenge.rw_dueyard_k13_loads_refused.Holds := by
 w_on;o_law
 refine PySem.W.holds_open (q:=L4.lawView My.ask PySem.Challenge.pw_dueyard_k13_loads_refused) (loose:=L4.looseOf PySem.Challenge.pw_dueyard_k13_loads_refused) (Xt:=fun _=>true) (XP:=fun _ _=>True) (YP:=fun _ h=> ∃K:Frag,K.In h∧L4.seenK My.ask K=L4.good PySem.Challenge.pw_dueyard_k13_loads_refused My.ask) (d:=My.d_law) (kwd:=[]) (N:=20000) (L4.left_one (good:=L4.good PySem.Challenge.pw_dueyard_k13_loads_refused My.ask) (by kernel_rfl) (by decide) (fun _=>rfl) My.one) (fun w s e=>L4.seen_ok w s e) (fun w h h'=>L4.seen_keeps w h h') (fun _ _=>trivial) (fun _ _ _ _ _=>trivial) (by kernel_rfl) (by kernel_rfl) rfl (fun _ _=>recFacts_nil rfl) rfl (by assumption) (by decide+kernel) ⟨rfl,rfl,rfl,rfl,rfl,by decide+kernel⟩ ?hw ?hc
 case hw=>w_witness2
 case hc=>
  refine L4.walk_one (l:=PySem.Challenge.rw_dueyard_k13_loads_refused) (n:=63) (k:=6) (x:="_law_script") (CX:=fun w=>L2.XT PySem.Challenge.rw_dueyard_k13_loads_refused.prog w) (sp:=L3.spL) rfl (by decide) rfl ⟨rfl,by decide,by decide⟩ ?F (fun _ _ a ns hl hO hS=>⟨a,ns,rfl,hl,hS,hO,fun _=>rfl⟩) fun _ _ _ _ _ z=>L3.noX z
  intro w mg fa h K KX G S hmg
  obtain ⟨T,_⟩:=My.txt KX G S
  have e:=hmg.symm.trans T.d_law.g
  cases e
  exact ⟨T.fd_law,L4.binds_law T.d_law.F fun _ _ _ _ _ _ _=>rfl,fun base _ _=>(My.G_law (P:=PySem.Challenge.rw_dueyard_k13_loads_refused.prog) (w:=w) (base:=base) T).imp (sp':=L3.spL K) fun vs H Q E h=>L3.spL_of (κ:=My.kx T) My.law_true h⟩
