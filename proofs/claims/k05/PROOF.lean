import PyProof.Rows.All
import Wide.All
import OpenK.AllK
import Wide.FinOn
import Lean
import PyProof.EqAt
import PyProof.EqKinds
import PyProof.TupleCall
import KE.KSortTup
import KE.KUnpack
import PyProof.ExcBaseAll.ValueError
import KE.KTryMore
import PyProof.Rows.Catch
import PyProof.NsDelKeeps
import KE.KIsAll
import PyProof.ExcArgsOwn
import PyProof.InstStore
import PyProof.DictRoadsH
import PyProof.EnumFor
import PyProof.EnumStmt
import PyProof.EnumMake
import PyProof.MaxThree
import KE.KDictList
import PyProof.NeKinds
import KE.KEqDict
import KE.KxText
import PyProof.WalkInts
import PyProof.SeqI3
import KE.KIntText
import KE.KClos
import KE.KNest
import KE.KRevIter
import PyProof.ListRange
import PyProof.DictIter
import PyProof.DictWalks
import PyProof.TupleOfSeq
import PyProof.Calls
import PySem.Challenge.RW_dueyard_k05_a_calendar_asked
universe u
noncomputable section
theorem z4 {α:Type u} {l:List α} {i:Nat} (h:i<l.length):l[i]?=some l[i]:=List.getElem?_eq_getElem h
theorem zc {a b:Prop} (h:a) (k:b):a∧b:=⟨h,k⟩
set_option Elab.async false
set_option linter.all false
set_option maxRecDepth 100000
namespace L2
open PySem PySem.Spec PyProof.Rows
abbrev yd:=Sum Int Str
def zua:yd→Value→Bool
 | .inl k,v=>Value.isInt k v
 | .inr x,v=>Value.isStrOf x v
def keyH (w:World):yd→Int
 | .inl k=>hashInt k
 | .inr x=>hashStr w x
theorem zav: ∀{k:yd} {v:Value},zua k v=true→(∃i t,k=Sum.inl i∧v=Value.int i t)∨(∃x t,k=Sum.inr x∧v=Value.str x t)
 | .inl i,v,h=>by
  obtain ⟨t,e⟩:=Value.isInt_shape (k:=i) (v:=v) h
  exact .inl ⟨i,t,rfl,e⟩
 | .inr x,v,h=>by
  obtain ⟨t,e⟩:=Value.isStrOf_shape (x:=x) (v:=v) h
  exact .inr ⟨x,t,rfl,e⟩
theorem zsr (a b:Int):decide ((Sum.inl a:yd)=Sum.inl b)=(a==b):=by
 by_cases e:a=b
 ·subst e;simp
 ·have h: ¬(Sum.inl a:yd)=Sum.inl b:=fun q=>e (Sum.inl.inj q)
  rw [decide_eq_false h]
  exact (beq_eq_false_iff_ne.mpr e).symm
theorem zsy (a b:Str):decide ((Sum.inr a:yd)=Sum.inr b)=decide (a=b):=by
 by_cases e:a=b
 ·subst e;simp
 ·have h: ¬(Sum.inr a:yd)=Sum.inr b:=fun q=>e (Sum.inr.inj q)
  rw [decide_eq_false h,decide_eq_false e]
theorem zr1 (a:Int) (b:Str):decide ((Sum.inl a:yd)=Sum.inr b)=false:=decide_eq_false (fun q=>nomatch q)
theorem zt4 (a:Str) (b:Int):decide ((Sum.inr a:yd)=Sum.inl b)=false:=decide_eq_false (fun q=>nomatch q)
def zd5 (prog:Program) (w:World):PySem.KeyKind prog w yd where
 is:=zua
 hash:=keyH w
 inj:=fun v a b ha hb=>by
  rcases zav ha with ⟨i,t,rfl,rfl⟩ | ⟨x,t,rfl,rfl⟩
  ·rcases zav hb with ⟨j,u,rfl,e⟩ | ⟨y,u,rfl,e⟩
   ·injection e with e1 _;rw [e1]
   ·exact nomatch e
  ·rcases zav hb with ⟨j,u,rfl,e⟩ | ⟨y,u,rfl,e⟩
   ·exact nomatch e
   ·injection e with e1 _;rw [e1]
 byValue:=fun k v h=>by
  rcases zav h with ⟨i,t,rfl,rfl⟩ | ⟨x,t,rfl,rfl⟩ <;> rfl
 pyHash:=fun hv h=>by
  rcases zav hv with ⟨i,t,rfl,rfl⟩ | ⟨x,t,rfl,rfl⟩
  ·exact wpAny_pyHash_int h
  ·exact wpAny_pyHash_str h
 eqBool:=fun hu hv h=>by
  rcases zav hu with ⟨i,t,rfl,rfl⟩ | ⟨x,t,rfl,rfl⟩
  ·rcases zav hv with ⟨j,u,rfl,rfl⟩ | ⟨y,u,rfl,rfl⟩
   ·rw [zsr] at h;exact wpAny_eqBool_int h
   ·rw [zr1] at h;exact SeqAt.EqAt.int_str i t y u _ _ _ _ h
  ·rcases zav hv with ⟨j,u,rfl,rfl⟩ | ⟨y,u,rfl,rfl⟩
   ·rw [zt4] at h;exact SeqAt.EqAt.str_int x t j u _ _ _ _ h
   ·rw [zsy] at h;exact wpAny_eqBool_str h
 «strs» :=fun k x t v h=>by
  rcases zav h with ⟨i,u,rfl,e⟩ | ⟨y,u,rfl,e⟩
  ·exact nomatch e
  ·injection e with e1 _
   subst e1
   cases v <;> rfl
inductive V where
 | non | bl (b:Bool) | int (i:Int) | str (x:Str) | byt (b:Array UInt8) | flt (b:UInt64) | ref (a:Addr) | ty (n:String)
 deriving DecidableEq
def RelV:V→Value→Prop
 | .non,u=>u=Value.none
 | .bl b,u=>u=Value.bool b
 | .int i,u=> ∃t,u=Value.int i t
 | .str x,u=> ∃t,u=Value.str x t
 | .byt b,u=> ∃t,u=Value.bytes b t
 | .flt b,u=> ∃t,u=Value.float b t
 | .ref a,u=>u=Value.ref a
 | .ty n,u=>u=Value.type n
abbrev Vals:List V→List Value→Prop:=Paired RelV
theorem Vals.length {xs:List V} {us:List Value} (r:Vals xs us):xs.length=us.length:=Paired.length r
theorem Vals.get: ∀{xs:List V} {us:List Value} {i:Nat} {x:V},Vals xs us→xs[i]? =some x→∃u,us[i]? =some u∧RelV x u
 | _,_,_,_,.nil,e=>by simp at e
 | _,_,0,_,.cons r _,e=>by simp at e;subst e;exact ⟨_,rfl,r⟩
 | _,_,i+1,x,.cons _ t,e=>by
  obtain ⟨u,h1,h2⟩:=Vals.get (i:=i) (x:=x) t (by simpa using e)
  exact ⟨u,by simpa using h1,h2⟩
theorem Vals.set {x:V} {u:Value} (r:RelV x u): ∀{xs:List V} {us:List Value} (i:Nat),Vals xs us→Vals (xs.set i x) (us.set i u)
 | _,_,_,.nil=> .nil
 | _,_,0,.cons _ t=> .cons r t
 | _,_,i+1,.cons q t=> .cons q (Vals.set r i t)
theorem Vals.append: ∀{xs ys:List V} {us ws:List Value},Vals xs us→Vals ys ws→Vals (xs++ys) (us++ws)
 | _,_,_,_,.nil,s=>s
 | _,_,_,_,.cons r t,s=> .cons r (Vals.append t s)
theorem Vals.take: ∀{xs:List V} {us:List Value} (n:Nat),Vals xs us→Vals (xs.take n) (us.take n)
 | _,_,0,_=> .nil
 | _,_,_+1,.nil=> .nil
 | _,_,n+1,.cons r t=> .cons r (Vals.take n t)
theorem Vals.drop: ∀{xs:List V} {us:List Value} (n:Nat),Vals xs us→Vals (xs.drop n) (us.drop n)
 | _,_,0,r=>r
 | _,_,_+1,.nil=> .nil
 | _,_,n+1,.cons _ t=>Vals.drop n t
def RelO:Option V→Option Value→Prop
 | some v,some u=>RelV v u
 | none,none=>True
 | _,_=>False
def KV {κ:Type}:List (κ×V)→List (κ×Value)→Prop:=Paired fun (p:κ×V) (q:κ×Value)=>p.1=q.1∧RelV p.2 q.2
def kV:yd→V
 | .inl i=> .int i
 | .inr x=> .str x
inductive MK where
 | one (k:yd)
 | tup (ks:List yd)
 deriving DecidableEq
def MK.hash (P:Program) (w:World):MK→Int
 | .one k=>(zd5 P w).hash k
 | .tup ks=>tupleKeyHash (zd5 P w) ks
def entM (P:Program) (w:World) (x:MK×Value×Value):DictEntry:=⟨x.1.hash P w,x.2.1,x.2.2⟩
inductive HO where
 | lst (xs:List V)
 | tup (xs:List V)
 | dK (kvs:List (yd×V)) | dT (kvs:List (MK×V))
 | set (S:Int→Bool) (n:Nat)
 | ins (C dx:Addr) (fs:List (Str×V))
 | own (x:Addr)
 | xd (fs:List (Str×V))
 | met (f x:Addr)
 | rng (lo hi:Int)
 | frz (o:Obj) (u:HO)
 | tbl (ps:Array Value)
 | ext (φ:Heap→Prop)
abbrev Hp:=Addr→Option HO
def KyV (H:Hp):MK→Value→Prop
 | .one k,u=>RelV (kV k) u
 | .tup ks,u=> ∃b,u= .ref b∧H b=some (.tup (ks.map kV))
theorem KyV.mono {H H':Hp} (ht: ∀b xs,H b=some (.tup xs)→H' b=some (.tup xs)): ∀{k:MK} {u:Value},KyV H k u→KyV H' k u
 | .one _,_,h=>h
 | .tup _,_,⟨b,e,q⟩=>⟨b,e,ht _ _ q⟩
def zg (H:Hp) (a:Addr) (o:HO):Hp:=fun b=>if b=a then some o else H b
theorem zI {H:Hp} {a:Addr} {o:HO}:zg H a o a=some o:=by unfold zg;rw [if_pos rfl]
theorem zl {H:Hp} {a b:Addr} {o:HO} (h:b≠a):zg H a o b=H b:=by unfold zg;rw [if_neg h]
theorem zus {H:Hp} {a b:Addr} {o u:HO} (h:H a=some o) (h':H b=some u) (d:o≠u):a≠b:=by
 intro e;subst e;rw [h] at h';exact d (Option.some.inj h')
theorem zT {H:Hp} {a b:Addr} {o:HO} (h:H a=some o) (h':H b=none):a≠b:=by
 intro e;subst e;rw [h] at h';cases h'
section
variable (P:Program) (w:World)
def ObjOk (H:Hp) (h:Heap) (a:Addr):HO→Prop
 | .lst xs=>xs.length≤sizeLine∧∃(its:List Value) (n:Nat),Vals xs its∧h.get? a=some {cls:= .type "list",data:= .seq its.toArray n}
 | .tup xs=>xs.length≤sizeLine∧∃its:List Value,Vals xs its∧IsTup h a its.toArray
 | .dK kvs=>kvs.length≤sizeLine∧(a==sysModules)=false∧∃vs,KV kvs vs∧h.DictOf (zd5 P w) a vs
 | .dT kvs=>kvs.length≤sizeLine∧(a==sysModules)=false∧∃xs:List (MK×Value×Value),Paired (fun (p:MK×V) (q:MK×Value×Value)=>p.1=q.1∧KyV H p.1 q.2.1∧RelV p.2 q.2.2) kvs xs∧
  ∃o es ep,h.get? a=some o∧o.ExactDict∧o.data= .dict es ep∧es.toList=xs.map (entM P w)∧(xs.map (·.1)).Nodup∧ep=xs.length
 | .set S n=>h.SetOf (intKind P w) a S n
 | .ins C dx fs=>H dx=some (.own a)∧fs.length≤1000∧dx≠a∧h.get? a=some (PySem.W.instObj C dx)∧
  ∃mA,h.Ns1 dx mA∧(∀f,RelO (fs.lookup f) (mA f))∧PySem.Within mA (fs.map (·.1))
 | .own _=> ∃o,h.get? a=some o
 | .xd fs=> ∃mA,h.Ns1 a mA∧∀f,RelO (fs.lookup f) (mA f)
 | .rng lo hi=> ∃t u v,h.get? a=some {cls:= .type "range",data:= .fields #[.int lo t,.int hi u,.int 1 v]}
 | .frz o u=>h.get? a=some o∧ObjOk H h a u
 | .tbl ps=>h.get? a=some {cls:= .none,data:= .fields ps}
 | .met f x=>h.get? a=some (PySem.W.methodObj (.ref f) (.ref x))
 | .ext φ=>φ h∧(∃o,h.get? a=some o)∧∀h1 h2:Heap,φ h1→(∀o,h1.get? a=some o→h2.get? a=some o)→φ h2
def HOk (H:Hp) (h:Heap):Prop:=∀a o,H a=some o→ObjOk P w H h a o
end
section
variable {P:Program} {w:World} {H H':Hp} {h h':Heap} {a:Addr} {o:HO}
theorem ObjOk.lt (x:ObjOk P w H h a o):a < h.objs.size:=by
 cases o with
 | lst xs=>obtain ⟨_,_,_,_,e⟩:=x;exact Heap.lt_size e
 | tup xs=>obtain ⟨_,_,_,p⟩:=x;exact p.lt
 | dK kvs=>obtain ⟨_,_,_,_,o,_,_,e,_⟩:=x;exact Heap.lt_size e
 | dT kvs=>obtain ⟨_,_,_,_,o,_,_,e,_⟩:=x;exact Heap.lt_size e
 | set S n=>obtain ⟨o,_,_,_,e,_⟩:=x;exact Heap.lt_size e
 | ins C dx fs=>obtain ⟨_,_,_,e,_⟩:=x;exact Heap.lt_size e
 | own y=>obtain ⟨_,e⟩:=x;exact Heap.lt_size e
 | xd fs=>obtain ⟨_,⟨_,_,_,e,_⟩,_⟩:=x;exact Heap.lt_size e
 | rng lo hi=>obtain ⟨_,_,_,e⟩:=x;exact Heap.lt_size e
 | frz ob u=>obtain ⟨e,_⟩:=x;exact Heap.lt_size e
 | tbl ps=>exact Heap.lt_size (show h.get? a=some _ from x)
 | met f y=>exact Heap.lt_size (show h.get? a=some _ from x)
 | ext φ=>obtain ⟨_,⟨_,e⟩,_⟩:=x;exact Heap.lt_size e
theorem Paired.mapP {α β:Type} {F G:α→β→Prop}: ∀{l₁:List α} {l₂:List β},Paired F l₁ l₂→(∀a b,F a b→G a b)→Paired G l₁ l₂
 | _,_,.nil,_=> .nil
 | _,_,.cons r t,f=> .cons (f _ _ r) (Paired.mapP t f)
theorem ObjOk.stay (x:ObjOk P w H h a o) (k: ∀b u,(b=a∨H b=some (.own a))→h.get? b=some u→h'.get? b=some u)
  (ho: ∀b,H b=some (.own a)→H' b=some (.own a)) (ht: ∀b xs,H b=some (.tup xs)→H' b=some (.tup xs)):ObjOk P w H' h' a o:=by
 induction o with
 | lst xs=>obtain ⟨z,its,n,r,e⟩:=x;exact ⟨z,its,n,r,k _ _ (.inl rfl) e⟩
 | tup xs=>obtain ⟨z,its,r,ob,e,c⟩:=x;exact ⟨z,its,r,ob,k _ _ (.inl rfl) e,c⟩
 | dK kvs=>obtain ⟨z,y,vs,r,ob,es,ep,e,c⟩:=x;exact ⟨z,y,vs,r,ob,es,ep,k _ _ (.inl rfl) e,c⟩
 | dT kvs=>
  obtain ⟨z,y,xs,r,ob,es,ep,e,c⟩:=x
  exact ⟨z,y,xs,Paired.mapP r fun p q z=>⟨z.1,z.2.1.mono ht,z.2.2⟩,ob,es,ep,k _ _ (.inl rfl) e,c⟩
 | set S n=>obtain ⟨ob,es,ep,t,e,c⟩:=x;exact ⟨ob,es,ep,t,k _ _ (.inl rfl) e,c⟩
 | ins C dx fs=>
  obtain ⟨d,z,ne,e,mA,⟨od,es,ep,e2,c⟩,r⟩:=x
  exact ⟨ho _ d,z,ne,k _ _ (.inl rfl) e,mA,⟨od,es,ep,k _ _ (.inr d) e2,c⟩,r⟩
 | own y=>obtain ⟨ob,e⟩:=x;exact ⟨ob,k _ _ (.inl rfl) e⟩
 | xd fs=>obtain ⟨mA,⟨od,es,ep,e,c⟩,r⟩:=x;exact ⟨mA,⟨od,es,ep,k _ _ (.inl rfl) e,c⟩,r⟩
 | rng lo hi=>obtain ⟨t,u,v,e⟩:=x;exact ⟨t,u,v,k _ _ (.inl rfl) e⟩
 | frz ob u ih=>obtain ⟨e,q⟩:=x;exact ⟨k _ _ (.inl rfl) e,ih q⟩
 | tbl ps=>
  have e:h.get? a=some {cls:= .none,data:= .fields ps}:=x
  show h'.get? a=some {cls:= .none,data:= .fields ps}
  exact k a _ (.inl rfl) e
 | met f y=>
  have e:h.get? a=some (PySem.W.methodObj (.ref f) (.ref y)):=x
  show h'.get? a=some (PySem.W.methodObj (.ref f) (.ref y))
  exact k a _ (.inl rfl) e
 | ext φ=>obtain ⟨p,⟨o,e⟩,st⟩:=x;exact ⟨st _ _ p fun o q=>k _ _ (.inl rfl) q,⟨o,k _ _ (.inl rfl) e⟩,st⟩
theorem HOk.lt (x:HOk P w H h) (e:H a=some o):a < h.objs.size:=(x a o e).lt
theorem HOk.fresh (x:HOk P w H h) (e:h.objs.size≤a):H a=none:=by
 cases q:H a with
 | none=>rfl
 | some u=>exact absurd (Nat.lt_of_lt_of_le (x.lt q) e) (Nat.lt_irrefl _)
theorem HOk.kept (x:HOk P w H h) (k: ∀b u,h.get? b=some u→h'.get? b=some u):HOk P w H h':=fun a o e=>
 (x a o e).stay (fun b u _ q=>k b u q) (fun _ q=>q) fun _ _ q=>q
theorem HOk.laid (x:HOk P w H h) (k: ∀b u,h.get? b=some u→h'.get? b=some u) (hp:h.objs.size≤a) (new:ObjOk P w (zg H a o) h' a o):HOk P w (zg H a o) h':=fun b u e=>by
 have hn:=x.fresh hp
 by_cases hb:b=a
 ·subst hb;rw [zI] at e;cases e;exact new
 ·rw [zl hb] at e
  exact (x b u e).stay (fun c v _ q=>k c v q) (fun c q=>by rw [zl (zT q hn)];exact q) fun c xs q=>by rw [zl (zT q hn)];exact q
end
def Rd (H:Hp) (a:Addr) (u:HO):Prop:=H a=some u∨∃o,H a=some (.frz o u)
theorem Rd.ok {P:Program} {w:World} {H:Hp} {h:Heap} {a:Addr} {u:HO} (r:Rd H a u) (x:HOk P w H h):ObjOk P w H h a u:=by
 rcases r with r | ⟨o,r⟩
 ·exact x a u r
 ·obtain ⟨_,q⟩:=x a _ r
  exact q
def Mut:Option HO→Prop
 | some (.lst _)=>True
 | some (.dK _)=>True
 | some (.dT _)=>True
 | some (.set _ _)=>True
 | some (.ins _ _ _)=>True
 | some (.ext _)=>True
 | _=>False
section
variable {P:Program} {w:World} {H:Hp} {h h':Heap} {x e:Addr} {o':HO}
theorem HOk.write (ok:HOk P w H h) (mu:Mut (H x)) (he:e=x∨H e=some (.own x)) (k: ∀b u,b≠e→h.get? b=some u→h'.get? b=some u) (heo: ∃u,h'.get? e=some u)
  (new:ObjOk P w (zg H x o') h' x o'):HOk P w (zg H x o') h':=fun b u q=>by
 have nown: ∀c y,H c=some (.own y)→c≠x:=fun c y r z=>by subst z;rw [r] at mu;exact mu
 have ntup: ∀c xs,H c=some (.tup xs)→c≠x:=fun c xs r z=>by subst z;rw [r] at mu;exact mu
 by_cases hb:b=x
 ·subst hb;rw [zI] at q;cases q;exact new
 ·rw [zl hb] at q
  by_cases hbe:b=e
  ·have q':H b=some (.own x):=by
    rcases he with z | z
    ·exact absurd (hbe.trans z) hb
    ·rw [hbe];exact z
   rw [q] at q';cases q'
   obtain ⟨v,hv⟩:=heo
   exact ⟨v,by rw [hbe];exact hv⟩
  ·refine (ok b u q).stay (fun c v hc r=>k c v ?_ r) (fun c r=>by rw [zl (nown c b r)];exact r) fun c xs r=>by rw [zl (ntup c xs r)];exact r
   rcases hc with rfl | hc
   ·exact hbe
   ·rintro rfl
    rcases he with z | z
    ·exact nown c b hc z
    ·rw [hc] at z;cases z;exact hb rfl
end
structure Un (fs ex:List Addr) (H H':Hp) (h h':Heap):Prop where
 keep: ∀b o,h.get? b=some o→H b=none→b∉fs→b∉ex→h'.get? b=some o
 slot: ∀b o,h.get? b=some o→H b=none→b∈fs→b∉ex→∃sl,h'.get? b=some {o with slots:=sl}
 free: ∀b o,h.get? b=some o→H b=none→b∉ex→H' b=none
 there: ∀b o,h.get? b=some o→b∉ex→∃o',h'.get? b=some o'
 tups: ∀b xs,H b=some (.tup xs)→H' b=some (.tup xs)
 frzs: ∀b o u,H b=some (.frz o u)→H' b=some (.frz o u)
 tbls: ∀b ps,H b=some (.tbl ps)→∃more,H' b=some (.tbl (ps++more))
section
variable {fs fs' ex ex':List Addr} {H H1 H2:Hp} {h h1 h2 h':Heap} {a x e:Addr} {o:HO}
theorem Un.any (u:Un fs ex H H1 h h1) {b:Addr} {ob:Obj} (q:h.get? b=some ob) (n:H b=none) (hx:b∉ex): ∃sl,h1.get? b=some {ob with slots:=sl}:=by
 by_cases hb:b∈fs
 ·exact u.slot b ob q n hb hx
 ·exact ⟨ob.slots,u.keep b ob q n hb hx⟩
theorem Un.kept (k: ∀b u,h.get? b=some u→h'.get? b=some u):Un fs ex H H h h':=
 ⟨fun b ob q _ _ _=>k b ob q,fun b ob q _ _ _=>⟨ob.slots,k b ob q⟩,fun _ _ _ n _=>n,fun b ob q _=>⟨ob,k b ob q⟩,fun _ _ q=>q,fun _ _ _ q=>q,fun _ ps q=>⟨#[],by rw [q];simp⟩⟩
theorem Un.refl:Un fs ex H H h h:=Un.kept fun _ _ q=>q
theorem Un.laid (k: ∀b u,h.get? b=some u→h'.get? b=some u) (hp:h.objs.size≤a) (hn:H a=none):Un fs ex H (zg H a o) h h' where
 keep:=fun b u q _ _ _=>k b u q
 slot:=fun b u q _ _ _=>⟨u.slots,k b u q⟩
 free:=fun b u q n _=>by rw [zl (Nat.ne_of_lt (Nat.lt_of_lt_of_le (Heap.lt_size q) hp))];exact n
 there:=fun b u q _=>⟨u,k b u q⟩
 tups:=fun b xs q=>by rw [zl (zT q hn)];exact q
 frzs:=fun b u xs q=>by rw [zl (zT q hn)];exact q
 tbls:=fun b ps q=>⟨#[],by rw [zl (zT q hn),q];simp⟩
theorem Un.write (mu:Mut (H x)) (he:e=x∨H e=some (.own x)) (k: ∀b u,b≠e→h.get? b=some u→h'.get? b=some u) (heo: ∃u,h'.get? e=some u):Un fs ex H (zg H x o) h h':=by
 have hx: ∀b,H b=none→b≠x:=fun b n z=>by subst z;rw [n] at mu;exact mu
 have hb: ∀b,H b=none→b≠e:=fun b n z=>by
  subst z
  rcases he with r | r
  ·exact hx b n r
  ·rw [n] at r;cases r
 have hm: ∀b u,H b=some u→¬Mut (some u)→b≠x:=fun b u q nm z=>by subst z;rw [q] at mu;exact nm mu
 refine ⟨fun b u q n _ _=>k b u (hb b n) q,fun b u q n _ _=>⟨u.slots,k b u (hb b n) q⟩,fun b u q n _=>by rw [zl (hx b n)];exact n,fun b u q _=>?_,
  fun b xs q=>by rw [zl (hm b _ q fun z=>z)];exact q,fun b u xs q=>by rw [zl (hm b _ q fun z=>z)];exact q,fun b ps q=>⟨#[],by rw [zl (hm b _ q fun z=>z),q];simp⟩⟩
 by_cases hbe:b=e
 ·subst hbe;exact heo
 ·exact ⟨u,k b u hbe q⟩
end
def trk (h:Heap) (H:Hp):List Addr:=(List.range h.objs.size).filter fun a=>(H a).isSome
def zM (h:Heap) (H:Hp):Heap:=PySem.W.hideAll h (trk h H)
theorem zhh (h:Heap) (H:Hp):(zM h H).objs.size=h.objs.size:=PySem.W.hideAll_size _ _
theorem zjh {h:Heap} {H:Hp} {b:Addr} {o:Obj} (e:h.get? b=some o) (n:H b=none):(zM h H).get? b=some o:=
 PySem.W.hideAll_get _ e fun hm=>by
  have q:(H b).isSome=true:=(List.mem_filter.mp hm).2
  rw [n] at q;simp at q
theorem znk {h:Heap} {H:Hp} {b:Addr} {o:Obj} (e:(zM h H).get? b=some o):h.get? b=some o∧H b=none:=by
 have e':h.get? b=some o:=PySem.W.of_hideAll (trk h H) e
 refine ⟨e',?_⟩
 cases q:H b with
 | none=>rfl
 | some x=>
  have hm:b∈trk h H:=List.mem_filter.mpr ⟨List.mem_range.mpr (Heap.lt_size e'),by simp [q]⟩
  have z:(zM h H).get? b=none:=PySem.W.hideAll_none (trk h H) hm
  rw [z] at e;cases e
structure Mod (K:PySem.W.Frag) (mg:Str→Option Value) (base:Heap):Prop where
 kin:K.In base
 glob:base.Ns mainGlobals mg
 blt: ∃mb,base.Ns builtinsNs mb∧∀x:Str,x≠"__name__" →mb x=bootBuiltins x
 nolimit:base.NoLimit
structure Cx where
 prog:Program
 w:World
 K:PySem.W.Frag
 mg:Str→Option Value
 base:Heap
 A:Around
 N:List Str
 s₀:Shared
 H₀:Hp
 env:Env
 outer:List Env
 stack:List Env
 ex:List Addr
 fn:Str→Bool
 calm:Bool
 pn:List (Addr×Obj)
 xe:Value→Shared→Prop
def zO (l:List Env):List Addr:=l.filterMap (·.frame)
abbrev Cx.fs (X:Cx):List Addr:=zO X.outer
def Vis (sc:Scope) (x:Str):Prop:=sc.names.lookup x=some .local∨sc.names.lookup x=some .cell∨sc.names.lookup x=some .free
def Loc (sc:Scope) (x:Str):Prop:=sc.names.lookup x=some .local∨sc.names.lookup x=some .cell
def Look (env:Env) (h:Heap) (m:Str→Option Value) (x:Str) (u:Value):Prop:=
 (env.kindOf x=some .local∧m x=some u)∨((env.kindOf x=some .cell∨env.kindOf x=some .free)∧∃c,env.cells.lookup x=some c∧h.IsCell c (some u))
structure Cx.Ok (X:Cx):Prop where
 mod:Mod X.K X.mg X.base
 kind:X.env.scope.kind= .function
 glob:X.env.globals=mainGlobals
 blt:X.env.builtins=builtinsNs
 above:X.s₀.heap.objs.size≤X.env.locals
 inj: ∀x y c,X.env.cells.lookup x=some c→X.env.cells.lookup y=some c→x=y
 has: ∀x,(X.env.kindOf x=some .cell∨X.env.kindOf x=some .free)→∃c,X.env.cells.lookup x=some c
 cab: ∀x c,X.fn x=true→X.env.cells.lookup x=some c→X.s₀.heap.objs.size≤c
 hd:X.calm=true→X.A.handled=none
 frames:X.A.frames=some X.stack
 stk:X.stack=X.outer∨(X.stack=X.env::X.outer∧X.env.frame=some X.env.locals)
 exf: ∀b∈X.ex,b≠X.env.locals∧∀x c,X.env.cells.lookup x=some c→c≠b
 bs: ∀b o,X.base.get? b=some o→X.s₀.heap.get? b=some o∧X.H₀ b=none
 bsz:X.base.objs.size≤X.s₀.heap.objs.size
 noex: ∀b o,X.base.get? b=some o→b∉X.ex
 exfs: ∀b∈X.ex,b∉X.fs
 funs:X.s₀.heap.FunFrames X.base X.outer
 frf: ∀b∈X.fs,X.H₀ b=none
structure Inv (X:Cx) (pins:List (Addr×Obj)) (σ:List (Option V)) (H:Hp) (s:Shared):Prop where
 ok:X.Ok
 os:s.os=X.s₀.os
 bare:AllBare s.gens
 base:Un X.fs X.ex X.H₀ H X.s₀.heap s.heap
 loc: ∃m,s.heap.Ns X.env.locals m∧∀(i:Nat) (x:Str) (v:V),X.N[i]? =some x→σ[i]? =some (some v)→Vis X.env.scope x→∃u,RelV v u∧Look X.env s.heap m x u
 cell: ∀x c,X.env.cells.lookup x=some c→∃v,s.heap.IsCell c v
 free:H X.env.locals=none
 freeC: ∀x c,X.env.cells.lookup x=some c→H c=none
 pin: ∀p∈X.pn++pins,s.heap.get? p.1=some p.2∧H p.1=none∧p.1≠X.env.locals∧p.1∉X.fs∧∀v,p.2.data≠ .cell v
 hok:HOk X.prog X.w H s.heap
 len:σ.length=X.N.length
section
variable {X:Cx} {pins:List (Addr×Obj)} {σ:List (Option V)} {H H':Hp} {s:Shared} {h':Heap}
theorem Cx.Ok.nofr (ok:X.Ok) {b:Addr} {o:Obj} (e:X.base.get? b=some o):b∉X.fs:=fun hb=>by
 have:=(ok.funs.mem hb).1
 rw [e] at this;cases this
theorem Inv.bs (I:Inv X pins σ H s): ∀b o,X.base.get? b=some o→s.heap.get? b=some o∧H b=none:=fun b o e=>
 ⟨I.base.keep b o (I.ok.bs b o e).1 (I.ok.bs b o e).2 (I.ok.nofr e) (I.ok.noex b o e),I.base.free b o (I.ok.bs b o e).1 (I.ok.bs b o e).2 (I.ok.noex b o e)⟩
theorem Inv.bk (I:Inv X pins σ H s): ∀b o,X.base.get? b=some o→s.heap.get? b=some o:=fun b o e=>(I.bs b o e).1
theorem Inv.mod (I:Inv X pins σ H s):Mod X.K X.mg X.base:=I.ok.mod
theorem Inv.kIn (I:Inv X pins σ H s):X.K.In s.heap:=I.ok.mod.kin.keeps I.bk
theorem Inv.lt (I:Inv X pins σ H s):X.env.locals < s.heap.objs.size:=let ⟨_,hn,_⟩:=I.loc;hn.lt
theorem Inv.sz (I:Inv X pins σ H s):X.s₀.heap.objs.size≤s.heap.objs.size:=Nat.le_trans I.ok.above (Nat.le_of_lt I.lt)
theorem Inv.nofs (I:Inv X pins σ H s) {a:Addr} (h:s.heap.objs.size≤a):a∉X.fs:=fun hb=>by
 obtain ⟨_,o,ho,_⟩:=I.ok.funs.mem hb
 exact absurd (Nat.lt_of_lt_of_le (Heap.lt_size ho) (Nat.le_trans I.sz h)) (Nat.lt_irrefl _)
theorem Inv.cne (I:Inv X pins σ H s): ∀x c,X.env.cells.lookup x=some c→c≠X.env.locals:=fun x c e z=>by
 obtain ⟨v,o,ho,hd⟩:=I.cell x c e
 obtain ⟨m,⟨o',es,ep,ho',hd',_⟩,_⟩:=I.loc
 rw [z,ho'] at ho;cases ho;rw [hd'] at hd;cases hd
theorem Inv.funs (I:Inv X pins σ H s):s.heap.FunFrames X.base X.outer:=by
 have all: ∀(l:List Env),(∀b∈zO l,b∈X.fs)→X.s₀.heap.FunFrames X.base l→s.heap.FunFrames X.base l:=by
  intro l
  induction l with
  | nil=>intro _ _;trivial
  | cons env r ih=>
   intro hs hl
   obtain ⟨hk,⟨L,o,hf,hn,ho,hd⟩,hr⟩:=hl
   have hL:L∈X.fs:=hs L (by unfold zO;rw [List.filterMap_cons,hf];exact List.mem_cons_self)
   obtain ⟨sl,e⟩:=I.base.slot L o ho (I.ok.frf L hL) hL fun z=>I.ok.exfs L z hL
   exact ⟨hk,⟨L,_,hf,hn,e,hd⟩,ih (fun b hb=>hs b (by unfold zO;rw [List.filterMap_cons,hf];exact List.mem_cons_of_mem _ hb)) hr⟩
 exact all X.outer (fun _ hb=>hb) I.ok.funs
theorem Inv.stack (I:Inv X pins σ H s):s.heap.FunFrames X.base X.stack:=by
 rcases I.ok.stk with e | ⟨e,hf⟩
 ·rw [e];exact I.funs
 ·rw [e]
  obtain ⟨m,hn,_⟩:=I.loc
  refine .cons (by rw [I.ok.kind];decide) hf hn ?_ I.funs
  exact Heap.get?_none_of_le (Nat.le_trans I.ok.bsz I.ok.above)
theorem Inv.stkSub (I:Inv X pins σ H s): ∀b∈zO X.stack,b∈X.env.locals::X.fs:=fun b hb=>by
 rcases I.ok.stk with e | ⟨e,hf⟩
 ·rw [e] at hb;exact List.mem_cons_of_mem _ hb
 ·rw [e] at hb
  unfold zO at hb
  rw [List.filterMap_cons,hf] at hb
  exact hb
theorem Inv.stkFree (I:Inv X pins σ H s): ∀b∈zO X.stack,H b=none:=fun b hb=>by
 rcases List.mem_cons.mp (I.stkSub b hb) with e | hb
 ·rw [e];exact I.free
 ·obtain ⟨_,o,ho,_⟩:=I.ok.funs.mem hb
  exact I.base.free b o ho (I.ok.frf b hb) fun z=>I.ok.exfs b z hb
theorem Inv.step {g':Array GenState} {t':Nat} {d':Drawn} {ch:List Addr} (I:Inv X pins σ H s)
  (hch: ∀b∈ch,(b∈X.ex∨X.s₀.heap.objs.size≤b)∧b≠X.env.locals∧(∀x c,X.env.cells.lookup x=some c→c≠b)∧∀p∈X.pn++pins,p.1≠b)
  (keep: ∀b o,b≠X.env.locals→b∉X.fs→b∉ch→s.heap.get? b=some o→H b=none→h'.get? b=some o)
  (slot: ∀b o,b≠X.env.locals→b∈X.fs→b∉ch→s.heap.get? b=some o→H b=none→∃sl,h'.get? b=some {o with slots:=sl}) (free: ∀b o,b∉ch→s.heap.get? b=some o→H b=none→H' b=none)
  (there: ∀b o,b∉ch→s.heap.get? b=some o→∃o',h'.get? b=some o')
  (tups: ∀b xs,H b=some (.tup xs)→H' b=some (.tup xs)) (frzs: ∀b o u,H b=some (.frz o u)→H' b=some (.frz o u)) (tbls: ∀b ps,H b=some (.tbl ps)→∃more,H' b=some (.tbl (ps++more)))
  (ns: ∀m,s.heap.Ns X.env.locals m→h'.Ns X.env.locals m) (hok:HOk X.prog X.w H' h') (hg:AllBare g'):
  Inv X pins σ H' {s with heap:=h',gens:=g',drawn:=d',toks:=t'}:=by
 have neL: ∀b o,X.s₀.heap.get? b=some o→b≠X.env.locals:=fun b o e=>Nat.ne_of_lt (Nat.lt_of_lt_of_le (Heap.lt_size e) I.ok.above)
 have neC: ∀b o,X.s₀.heap.get? b=some o→b∉X.ex→b∉ch:=fun b o e hx hb=>by
  rcases (hch b hb).1 with z | z
  ·exact hx z
  ·exact absurd (Nat.lt_of_lt_of_le (Heap.lt_size e) z) (Nat.lt_irrefl _)
 have cellK: ∀x c,X.env.cells.lookup x=some c→∀v,s.heap.IsCell c v→h'.IsCell c v:=fun x c e v ⟨o,ho,hd⟩=>by
  have nch:c∉ch:=fun z=>(hch c z).2.2.1 x c e rfl
  by_cases hc:c∈X.fs
  ·obtain ⟨sl,q⟩:=slot c o (I.cne x c e) hc nch ho (I.freeC x c e)
   exact ⟨_,q,hd⟩
  ·exact ⟨o,keep c o (I.cne x c e) hc nch ho (I.freeC x c e),hd⟩
 refine ⟨I.ok,I.os,hg,⟨fun b o e n hb hx=>?_,fun b o e n hb hx=>?_,fun b o e n hx=>?_,fun b o e hx=>?_,fun b xs e=>tups b xs (I.base.tups b xs e),fun b o xs e=>frzs b o xs (I.base.frzs b o xs e),fun b ps e=>?_⟩,?_,fun x c e=>?_,?_,fun x c e=>?_,fun p hp=>?_,hok,I.len⟩
 ·exact keep b o (neL b o e) hb (neC b o e hx) (I.base.keep b o e n hb hx) (I.base.free b o e n hx)
 ·obtain ⟨sl,e1⟩:=I.base.slot b o e n hb hx
  obtain ⟨sl',e2⟩:=slot b _ (neL b o e) hb (neC b o e hx) e1 (I.base.free b o e n hx)
  exact ⟨sl',e2⟩
 ·obtain ⟨o',e1⟩:=I.base.there b o e hx
  exact free b o' (neC b o e hx) e1 (I.base.free b o e n hx)
 ·obtain ⟨o',e1⟩:=I.base.there b o e hx
  exact there b o' (neC b o e hx) e1
 ·obtain ⟨m1,e1⟩:=I.base.tbls b ps e
  obtain ⟨m2,e2⟩:=tbls b _ e1
  exact ⟨m1++m2,by rw [e2,Array.append_assoc]⟩
 ·obtain ⟨m,hn,hl⟩:=I.loc
  refine ⟨m,ns m hn,fun i x v e1 e2 e3=>?_⟩
  obtain ⟨u,r,l⟩:=hl i x v e1 e2 e3
  refine ⟨u,r,?_⟩
  rcases l with l | ⟨k,c,e,z⟩
  ·exact .inl l
  ·exact .inr ⟨k,c,e,cellK x c e _ z⟩
 ·obtain ⟨v,z⟩:=I.cell x c e
  exact ⟨v,cellK x c e v z⟩
 ·obtain ⟨m,⟨o,_,_,ho,_⟩,_⟩:=I.loc
  exact free _ o (fun z=>(hch _ z).2.1 rfl) ho I.free
 ·obtain ⟨v,o,ho,hd⟩:=I.cell x c e
  exact free c o (fun z=>(hch c z).2.2.1 x c e rfl) ho (I.freeC x c e)
 ·obtain ⟨e,n,ne,nf,d⟩:=I.pin p hp
  have nch:p.1∉ch:=fun z=>(hch p.1 z).2.2.2 p hp rfl
  exact ⟨keep p.1 p.2 ne nf nch e n,free p.1 p.2 nch e n,ne,nf,d⟩
theorem Inv.un {t':Nat} (I:Inv X pins σ H s) (u:Un X.fs [] H H' s.heap h') (hok:HOk X.prog X.w H' h'):Inv X pins σ H' {s with heap:=h',toks:=t'}:=by
 obtain ⟨m,⟨o,es,ep,ho,r⟩,_⟩:=id I.loc
 obtain ⟨sl,hL⟩:=u.any ho I.free (by simp)
 exact I.step (g':=s.gens) (d':=s.drawn) (ch:=[]) (fun _ z=>nomatch z) (fun b o _ hb _ e n=>u.keep b o e n hb (by simp)) (fun b o _ hb _ e n=>u.slot b o e n hb (by simp)) (fun b o _ e n=>u.free b o e n (by simp)) (fun b o _ e=>u.there b o e (by simp)) u.tups u.frzs u.tbls (fun m' hm=>by
  obtain ⟨o',es',ep',ho',r'⟩:=hm
  rw [ho] at ho';cases ho'
  exact ⟨_,es',ep',hL,r'⟩) hok I.bare
theorem Inv.call {g':Array GenState} {t':Nat} {d':Drawn} {ch:List Addr} (I:Inv X pins σ H s) (u:Un (zO X.stack) ch H H' s.heap h') (hok:HOk X.prog X.w H' h') (hg:AllBare g')
  (hch: ∀b∈ch,(b∈X.ex∨X.s₀.heap.objs.size≤b)∧b≠X.env.locals∧(∀x c,X.env.cells.lookup x=some c→c≠b)∧∀p∈X.pn++pins,p.1≠b):
  Inv X pins σ H' {s with heap:=h',gens:=g',drawn:=d',toks:=t'}:=by
 obtain ⟨m,⟨o,es,ep,ho,r⟩,_⟩:=id I.loc
 obtain ⟨sl,hL⟩:=u.any ho I.free fun z=>(hch _ z).2.1 rfl
 exact I.step (ch:=ch) hch (fun b o hL hb hc e n=>u.keep b o e n (fun z=>(List.mem_cons.mp (I.stkSub b z)).elim hL hb) hc) (fun b o _ _ hc e n=>u.any e n hc) (fun b o hc e n=>u.free b o e n hc) (fun b o hc e=>u.there b o e hc) u.tups u.frzs u.tbls (fun m' hm=>by
  obtain ⟨o',es',ep',ho',r'⟩:=hm
  rw [ho] at ho';cases ho'
  exact ⟨_,es',ep',hL,r'⟩) hok hg
theorem Inv.turned {t':Nat} {it:Addr} (I:Inv X pins σ H s) (k: ∀b o,b≠it→s.heap.get? b=some o→h'.get? b=some o) (hn:H it=none) (hL:it≠X.env.locals)
  (h1:it∈X.ex∨X.s₀.heap.objs.size≤it) (h2: ∀x c,X.env.cells.lookup x=some c→c≠it) (h3: ∀p∈X.pn++pins,p.1≠it):Inv X pins σ H {s with heap:=h',toks:=t'}:=by
 have nit: ∀b u,H b=some u→b≠it:=fun b u e z=>by rw [z,hn] at e;cases e
 refine I.step (g':=s.gens) (d':=s.drawn) (ch:=[it]) (fun b hb=>?_) (fun b o _ _ hc e _=>k b o (fun z=>hc (by simp [z])) e) (fun b o _ _ hc e _=>⟨o.slots,k b o (fun z=>hc (by simp [z])) e⟩) (fun _ _ _ _ n=>n)
  (fun b o hc e=>⟨o,k b o (fun z=>hc (by simp [z])) e⟩) (fun _ _ e=>e) (fun _ _ _ e=>e) (fun b ps e=>⟨#[],by rw [e];simp⟩) (fun m hm=>?_) (fun b u e=>?_) I.bare
 ·have e:b=it:=by simpa using hb
  subst e
  exact ⟨h1,hL,h2,h3⟩
 ·obtain ⟨o,es,ep,ho,r⟩:=hm
  exact ⟨o,es,ep,k _ o (Ne.symm hL) ho,r⟩
 ·refine (I.hok b u e).stay (fun c v hc q=>k c v ?_ q) (fun _ q=>q) fun _ _ q=>q
  rcases hc with z | z
  ·rw [z];exact nit b u e
  ·exact nit c _ z
theorem Inv.tok (I:Inv X pins σ H s) (t:Nat):Inv X pins σ H {s with toks:=t}:=I.un (h':=s.heap) (t':=t) Un.refl I.hok
theorem Inv.kept {t':Nat} (I:Inv X pins σ H s) (k: ∀b u,s.heap.get? b=some u→h'.get? b=some u):Inv X pins σ H {s with heap:=h',toks:=t'}:=I.un (Un.kept k) (I.hok.kept k)
theorem Inv.laid {a:Addr} {o:HO} {t':Nat} (I:Inv X pins σ H s) (k: ∀b u,s.heap.get? b=some u→h'.get? b=some u) (hp:s.heap.objs.size≤a) (new:ObjOk X.prog X.w (zg H a o) h' a o):
 Inv X pins σ (zg H a o) {s with heap:=h',toks:=t'}:=I.un (Un.laid k hp (I.hok.fresh hp)) (I.hok.laid k hp new)
theorem Inv.write {x e:Addr} {o:HO} {t':Nat} (I:Inv X pins σ H s) (mu:Mut (H x)) (he:e=x∨H e=some (.own x)) (k: ∀b u,b≠e→s.heap.get? b=some u→h'.get? b=some u) (heo: ∃u,h'.get? e=some u)
 (new:ObjOk X.prog X.w (zg H x o) h' x o):Inv X pins σ (zg H x o) {s with heap:=h',toks:=t'}:=I.un (Un.write mu he k heo) (I.hok.write mu he k heo new)
theorem Inv.pins_of {pins':List (Addr×Obj)} (I:Inv X pins σ H s) (h: ∀p∈pins',s.heap.get? p.1=some p.2∧H p.1=none∧p.1≠X.env.locals∧p.1∉X.fs∧∀v,p.2.data≠ .cell v):Inv X pins' σ H s:=
 ⟨I.ok,I.os,I.bare,I.base,I.loc,I.cell,I.free,I.freeC,fun p hp=>(List.mem_append.mp hp).elim (fun z=>I.pin p (List.mem_append_left _ z)) (h p),I.hok,I.len⟩
theorem zje {N:List Str} (hN:N.Nodup) {i j:Nat} {x:Str} (a:N[i]? =some x) (b:N[j]? =some x):i=j:=by
 obtain ⟨h1,e1⟩:=List.getElem?_eq_some_iff.mp a
 obtain ⟨h2,e2⟩:=List.getElem?_eq_some_iff.mp b
 exact (List.getElem_inj hN).mp (e1.trans e2.symm)
theorem znd {M:Model} {A:Around} {E:Value→Shared→Prop} {i:Nat} {x:Str} {v:V} {u:Value} {Q:Unit→Shared→Prop} (I:Inv X pins σ H s) (hN:X.N.Nodup) (hi:X.N[i]? =some x) (hx:Loc X.env.scope x) (r:RelV v u)
  (h: ∀s',Inv X pins (σ.set i (some v)) H s'→(∃a,Heap.SameBut a s.heap s'.heap∧(a=X.env.locals∨X.env.cells.lookup x=some a))→Q () s') (hf:X.fn x=true∨X.env.scope.names.lookup x=some .local:=by first | exact .inl rfl | exact .inr rfl | assumption):wpAny M A (storeName X.env x u) Q E s:=by
 obtain ⟨m,hn,hl⟩:=id I.loc
 have hcls:(X.env.scope.kind== .class || (X.env.scope.kind== .module && X.env.locals !=X.env.globals))=false:=by rw [I.ok.kind];rfl
 have hiσ:i < σ.length:=by rw [I.len];exact (List.getElem?_eq_some_iff.mp hi).1
 have cne:=I.cne
 have tracked: ∀{a:Addr} {h':Heap},(∃o,s.heap.get? a=some o∧H a=none)→Heap.SameBut a s.heap h'→HOk X.prog X.w H h':=fun {a h'} ha hs b ob e=>by
  obtain ⟨_,_,hfree⟩:=ha
  refine (I.hok b ob e).stay (fun c w' hc q=>(hs.2 c ?_).trans q) (fun _ q=>q) fun _ _ q=>q
  rintro rfl
  rcases hc with rfl | hc
  ·rw [hfree] at e;cases e
  ·rw [hfree] at hc;cases hc
 rcases hx with hk | hk
 ·refine wpAny_storeName_local hk hn (fun h' hn' hs=>?_) hcls
  obtain ⟨oL,_,_,hoL,_⟩:=id hn
  refine h _ ⟨I.ok,I.os,I.bare,⟨fun b o e n hb hx=>?_,fun b o e n hb hx=>?_,I.base.free,fun b o e hx=>?_,I.base.tups,I.base.frzs,I.base.tbls⟩,⟨_,hn',fun j y v' e1 e2 e3=>?_⟩,fun y c e=>?_,I.free,I.freeC,fun p hp=>?_,tracked ⟨oL,hoL,I.free⟩ hs,by simpa using I.len⟩ ⟨_,hs,.inl rfl⟩
  ·exact (hs.2 b (Nat.ne_of_lt (Nat.lt_of_lt_of_le (Heap.lt_size e) I.ok.above))).trans (I.base.keep b o e n hb hx)
  ·obtain ⟨sl,e1⟩:=I.base.slot b o e n hb hx
   exact ⟨sl,(hs.2 b (Nat.ne_of_lt (Nat.lt_of_lt_of_le (Heap.lt_size e) I.ok.above))).trans e1⟩
  ·obtain ⟨o',e1⟩:=I.base.there b o e hx
   exact ⟨o',(hs.2 b (Nat.ne_of_lt (Nat.lt_of_lt_of_le (Heap.lt_size e) I.ok.above))).trans e1⟩
  ·by_cases hj:j=i
   ·subst hj
    rw [hi] at e1;cases e1
    rw [List.getElem?_set_self hiσ] at e2
    cases e2
    exact ⟨u,r,.inl ⟨hk,by simp⟩⟩
   ·rw [List.getElem?_set_ne (Ne.symm hj)] at e2
    obtain ⟨u',r',q⟩:=hl j y v' e1 e2 e3
    refine ⟨u',r',?_⟩
    rcases q with ⟨k,e⟩ | ⟨k,c,e,z⟩
    ·refine .inl ⟨k,?_⟩
     have:y≠x:=fun e=>hj (zje hN e1 (e ▸ hi))
     simp [this,e]
    ·exact .inr ⟨k,c,e,z.sameBut hs (cne y c e)⟩
  ·obtain ⟨w',z⟩:=I.cell y c e
   exact ⟨w',z.sameBut hs (cne y c e)⟩
  ·obtain ⟨e,n,ne,nf,d⟩:=I.pin p hp
   exact ⟨(hs.2 p.1 ne).trans e,n,ne,nf,d⟩
 ·have hfn:X.fn x=true:=by
   rcases hf with z | z
   ·exact z
   ·rw [z] at hk;cases hk
  obtain ⟨c,hc⟩:=I.ok.has x (.inl hk)
  obtain ⟨w',z⟩:=I.cell x c hc
  refine wpAny_storeName_cell I.ok.kind hk hc z (fun h' hc' hs=>?_)
  obtain ⟨oc,hoc,hocd⟩:=id z
  refine h {s with heap:=h'} ⟨I.ok,I.os,I.bare,⟨fun b o e n hb hx=>?_,fun b o e n hb hx=>?_,I.base.free,fun b o e hx=>?_,I.base.tups,I.base.frzs,I.base.tbls⟩,⟨m,hn.sameBut hs (Ne.symm (cne x c hc)),fun j y v' e1 e2 e3=>?_⟩,fun y c' e=>?_,I.free,I.freeC,fun p hp=>?_,tracked ⟨oc,hoc,I.freeC x c hc⟩ hs,by simpa using I.len⟩ ⟨c,hs,.inr hc⟩
  ·exact (hs.2 b (Nat.ne_of_lt (Nat.lt_of_lt_of_le (Heap.lt_size e) (I.ok.cab x c hfn hc)))).trans (I.base.keep b o e n hb hx)
  ·obtain ⟨sl,e1⟩:=I.base.slot b o e n hb hx
   exact ⟨sl,(hs.2 b (Nat.ne_of_lt (Nat.lt_of_lt_of_le (Heap.lt_size e) (I.ok.cab x c hfn hc)))).trans e1⟩
  ·obtain ⟨o',e1⟩:=I.base.there b o e hx
   exact ⟨o',(hs.2 b (Nat.ne_of_lt (Nat.lt_of_lt_of_le (Heap.lt_size e) (I.ok.cab x c hfn hc)))).trans e1⟩
  ·by_cases hj:j=i
   ·subst hj
    rw [hi] at e1;cases e1
    rw [List.getElem?_set_self hiσ] at e2
    cases e2
    exact ⟨u,r,.inr ⟨.inl hk,c,hc,hc'⟩⟩
   ·rw [List.getElem?_set_ne (Ne.symm hj)] at e2
    obtain ⟨u',r',q⟩:=hl j y v' e1 e2 e3
    refine ⟨u',r',?_⟩
    rcases q with q | ⟨k,c',e,z'⟩
    ·exact .inl q
    ·refine .inr ⟨k,c',e,z'.sameBut hs ?_⟩
     rintro rfl
     exact hj (zje hN e1 (I.ok.inj _ _ _ e hc ▸ hi))
  ·by_cases hcc:c'=c
   ·subst hcc;exact ⟨_,hc'⟩
   ·obtain ⟨w2,z2⟩:=I.cell y c' e
    exact ⟨w2,z2.sameBut hs hcc⟩
  ·obtain ⟨e,n,ne,nf,d⟩:=I.pin p hp
   refine ⟨(hs.2 p.1 ?_).trans e,n,ne,nf,d⟩
   intro q
   rw [q,hoc] at e
   have q':oc=p.2:=Option.some.inj e
   exact d w' (by rw [←q'];exact hocd)
theorem zfe {M:Model} {A:Around} {E:Value→Shared→Prop} {i:Nat} {x:Str} {v:V} {u:Value} {Q:Unit→Shared→Prop} (I:Inv X pins σ H s) (hN:X.N.Nodup) (hi:X.N[i]? =some x) (hx:Loc X.env.scope x) (r:RelV v u)
  (h: ∀s',Inv X pins (σ.set i (some v)) H s'→Q () s') (hf:X.fn x=true∨X.env.scope.names.lookup x=some .local:=by first | exact .inl rfl | exact .inr rfl | assumption):wpAny M A (storeName X.env x u) Q E s:=
 znd I hN hi hx r (fun s' I' _=>h s' I') hf
theorem Inv.call' {s':Shared} {ch:List Addr} (I:Inv X pins σ H s) (ho:s'.os=s.os) (u:Un (zO X.stack) ch H H' s.heap s'.heap) (hok:HOk X.prog X.w H' s'.heap) (hg:AllBare s'.gens)
  (hch: ∀b∈ch,(b∈X.ex∨X.s₀.heap.objs.size≤b)∧b≠X.env.locals∧(∀x c,X.env.cells.lookup x=some c→c≠b)∧∀p∈X.pn++pins,p.1≠b):Inv X pins σ H' s':=by
 obtain ⟨h',g',d',t',o'⟩:=s'
 have e:o'=s.os:=ho
 subst e
 exact I.call (g':=g') (t':=t') (d':=d') u hok hg hch
end
abbrev XK:=Value→Option Addr→Hp→Prop
abbrev St:=List (Option V)
abbrev VK:=V→Hp→Prop
abbrev TE:=St→Hp→VK→Prop
abbrev TT:=St→Hp→(Bool→Hp→Prop)→Prop
abbrev TA:=St→Hp→(List V→Hp→Prop)→Prop
structure Ends where
 nx:St→Hp→Prop
 rt:VK
 bk:St→Hp→Prop:=fun _ _=>False
 ct:St→Hp→Prop:=fun _ _=>False
abbrev TS:=Ends→St→Hp→Prop
def EP (X:Cx) (pins:List (Addr×Obj)) (σ:St) (Q:VK) (u:Value) (s':Shared):Prop:=∃v H',Inv X pins σ H' s'∧RelV v u∧Q v H'
def TP (X:Cx) (pins:List (Addr×Obj)) (σ:St) (Q:Bool→Hp→Prop) (b:Bool) (s':Shared):Prop:=∃H',Inv X pins σ H' s'∧Q b H'
def AP (X:Cx) (pins:List (Addr×Obj)) (σ:St) (Q:List V→Hp→Prop) (us:List Value) (s':Shared):Prop:=∃vs H',Inv X pins σ H' s'∧Vals vs us∧Q vs H'
def SP (X:Cx) (pins:List (Addr×Obj)) (D:Ends) (f:Flow) (s':Shared):Prop:=
 match f with
 | .next=> ∃σ' H',Inv X pins σ' H' s'∧D.nx σ' H'
 | .brk=> ∃σ' H',Inv X pins σ' H' s'∧D.bk σ' H'
 | .cont=> ∃σ' H',Inv X pins σ' H' s'∧D.ct σ' H'
 | .ret u=> ∃v σ' H',Inv X pins σ' H' s'∧RelV v u∧D.rt v H'
def PE (X:Cx) (e:Expr) (t:TE):Prop:=
 ∀(pins:List (Addr×Obj)) (s:Shared) (σ:St) (H:Hp) (Q:VK),Inv X pins σ H s→t σ H Q→wpAny (model X.prog X.w) X.A (eval e X.env) (EP X pins σ Q) X.xe s
def PT (X:Cx) (e:Expr) (t:TT):Prop:=
 ∀(pins:List (Addr×Obj)) (s:Shared) (σ:St) (H:Hp) (Q:Bool→Hp→Prop),Inv X pins σ H s→t σ H Q→wpAny (model X.prog X.w) X.A (isTrue e X.env (eval e X.env)) (TP X pins σ Q) X.xe s
def PW (X:Cx) (e:Expr) (t:TT):Prop:=
 ∀(whole:Sem Value) (pins:List (Addr×Obj)) (s:Shared) (σ:St) (H:Hp) (Q:Bool→Hp→Prop),Inv X pins σ H s→t σ H Q→wpAny (model X.prog X.w) X.A (isTrue e X.env whole) (TP X pins σ Q) X.xe s
theorem PW.pt {X:Cx} {e:Expr} {t:TT} (h:PW X e t):PT X e t:=h _
def PA (X:Cx) (es:List Expr) (t:TA):Prop:=
 ∀(pos:Pos) (pins:List (Addr×Obj)) (s:Shared) (σ:St) (H:Hp) (Q:List V→Hp→Prop),Inv X pins σ H s→t σ H Q→wpAny (model X.prog X.w) X.A (spliced (backTo pos (starEach es X.env))) (AP X pins σ Q) X.xe s
def PS (X:Cx) (st:Stmt) (t:TS):Prop:=
 ∀(pins:List (Addr×Obj)) (s:Shared) (σ:St) (H:Hp) (D:Ends),Inv X pins σ H s→t D σ H→wpAny (model X.prog X.w) X.A (exec st X.env) (SP X pins D) X.xe s
def z8 (X:Cx) (st:List Stmt) (t:TS):Prop:=
 ∀(pins:List (Addr×Obj)) (s:Shared) (σ:St) (H:Hp) (D:Ends),Inv X pins σ H s→t D σ H→wpAny (model X.prog X.w) X.A (execs st X.env) (SP X pins D) X.xe s
theorem zo {α:Type} {t:Sem α} {Q Q':α→Shared→Prop} {M:Model} {A:Around} {E:Value→Shared→Prop} {s:Shared} (h:wpAny M A t Q E s) (hQ: ∀a s,Q a s→Q' a s):wpAny M A t Q' E s:=wpAny_mono h hQ fun _ _ x=>x
section
variable {X:Cx}
def tVar (i:Nat):TE:=fun σ H Q=> ∃v,σ[i]? =some (some v)∧Q v H
def tC (v:V):TE:=fun _ H Q=>Q v H
theorem zk7 {i:Nat} {x:Str} {pos:Pos} (hN:X.N[i]? =some x) (hv:Vis X.env.scope x) (hd:(x==("__debug__" :Str))=false:=by decide) (hcd:(x==("__classdict__" :Str))=false:=by decide):PE X (.Name x pos) (tVar i):=by
 intro pins s σ H Q I h
 obtain ⟨v,e,h⟩:=h
 obtain ⟨m,hn,hl⟩:=I.loc
 obtain ⟨u,r,l⟩:=hl i x v hN e hv
 have fin:EP X pins σ Q u s:=⟨v,H,I,r,h⟩
 rcases l with ⟨hk,hm⟩ | ⟨hk,c,hc,hcell⟩
 ·exact wpAny_Name (wpAny_loadName_local I.ok.kind hk hn hm fin) hd
 ·rcases hk with hk | hk
  ·exact wpAny_Name (wpAny_loadName_cell I.ok.kind hk hc hcell fin) hd
  ·exact wpAny_Name (wpAny_loadName_free I.ok.kind hk hc hcell fin hcd) hd
theorem zum {i j pos}:PE X (.Constant (.int i) j pos) (tC (.int i)):=fun _ _ _ H _ I h=>wpAny_Constant_int ⟨.int i,H,I.tok _,⟨_,rfl⟩,h⟩
theorem zuo {b j pos}:PE X (.Constant (.bool b) j pos) (tC (.bl b)):=fun _ _ _ H _ I h=>Constant_bool ⟨.bl b,H,I,rfl,h⟩
theorem zse {j pos}:PE X (.Constant .none j pos) (tC .non):=fun _ _ _ H _ I h=>Constant_none ⟨.non,H,I,rfl,h⟩
theorem zs9 {x j pos}:PE X (.Constant (.str x) j pos) (tC (.str x)):=fun _ _ _ H _ I h=>Calls.Constant_str ⟨.str x,H,I.tok _,⟨_,rfl⟩,h⟩
def Gl (X:Cx) (x:Str):Prop:=X.env.kindOf x=some .globalImplicit
theorem zer {E:Value→Shared→Prop} {pins:List (Addr×Obj)} {s:Shared} {σ:St} {H:Hp} {x:Str} {u:Value} {pos:Pos} {Q:Value→Shared→Prop} (I:Inv X pins σ H s) (hg:Gl X x) (hm:X.mg x=some u) (h:Q u s)
  (hd:(x==("__debug__" :Str))=false:=by decide):wpAny (model X.prog X.w) X.A (eval (.Name x pos) X.env) Q E s:=
 Calls.Name_function_global I.ok.kind hg (Calls.loadGlobal_global (by rw [I.ok.glob];exact I.mod.glob.keeps I.bk) hm h) hd
theorem zff {E:Value→Shared→Prop} {pins:List (Addr×Obj)} {s:Shared} {σ:St} {H:Hp} {x:Str} {u:Value} {pos:Pos} {Q:Value→Shared→Prop} (I:Inv X pins σ H s) (hg:Gl X x) (hm:X.mg x=none) (hv:bootBuiltins x=some u) (h:Q u s)
  (hn:x≠"__name__" :=by decide) (hd:(x==("__debug__" :Str))=false:=by decide):wpAny (model X.prog X.w) X.A (eval (.Name x pos) X.env) Q E s:=by
 obtain ⟨mb,h1,h2⟩:=I.mod.blt
 exact Calls.Name_function_global I.ok.kind hg (Calls.loadGlobal_builtin (by rw [I.ok.glob];exact I.mod.glob.keeps I.bk) hm (by rw [I.ok.blt];exact h1.keeps I.bk) ((h2 x hn).trans hv) h) hd
theorem zfp {x:Str} {v:V} {u:Value} {pos:Pos} (hg:Gl X x) (hm:X.mg x=some u) (r:RelV v u) (hd:(x==("__debug__" :Str))=false:=by decide):PE X (.Name x pos) (tC v):=
 fun _ _ _ H _ I h=>zer I hg hm ⟨v,H,I,r,h⟩ hd
theorem zc9 {x:Str} {v:V} {u:Value} {pos:Pos} (hg:Gl X x) (hm:X.mg x=none) (hv:bootBuiltins x=some u) (r:RelV v u) (hn:x≠"__name__" :=by decide) (hd:(x==("__debug__" :Str))=false:=by decide):PE X (.Name x pos) (tC v):=
 fun _ _ _ H _ I h=>zff I hg hm hv ⟨v,H,I,r,h⟩ hn hd
variable {a b:Expr} {ta tb:TE} {pos:Pos}
def tB (t:TE):TT:=fun σ H Q=>t σ H fun x H1=> ∃c,x= .bl c∧Q c H1
theorem zr9 {e:Expr} {t:TE} (h:PE X e t) (he: ∀whole,isTrue e X.env whole=(do let v ←whole;standAt e.pos;holding [v] (truthy v)):=by intro _;rfl):PT X e (tB t):=by
 intro pins s σ H Q I hw
 refine isTrue_plain (zo (h pins s σ H _ I hw) fun v s1 ⟨x,H1,I1,r1,q1⟩=>?_) (he _)
 obtain ⟨d,rfl,q⟩:=q1
 cases r1
 exact wpAny_truthy_bool ⟨H1,I1,q⟩
variable {tA tB':TT} {rest:List Expr}
def tAnd (t u:TT):TT:=fun σ H Q=>t σ H fun c H1=>if c=true then u σ H1 Q else Q false H1
def tOr (t u:TT):TT:=fun σ H Q=>t σ H fun c H1=>if c=true then Q true H1 else u σ H1 Q
def tNot (t:TT):TT:=fun σ H Q=>t σ H fun c H1=>Q (!c) H1
theorem zql (ha:PT X a tA):PW X (.BoolOp .And [a] pos) tA:=by
 intro wh pins s σ H Q I h
 refine isTrue_and (zo (ha pins s σ H Q I h) fun c s1 e=>?_)
 cases c with
 | true=>exact isTrue_and_nil e
 | false=>exact e
theorem zsw (ha:PT X a tA):PW X (.BoolOp .Or [a] pos) tA:=by
 intro wh pins s σ H Q I h
 refine isTrue_or (zo (ha pins s σ H Q I h) fun c s1 e=>?_)
 cases c with
 | false=>exact isTrue_or_nil e
 | true=>exact e
theorem zuc (ha:PT X a tA) (hb:PW X (.BoolOp .And (b::rest) pos) tB'):PW X (.BoolOp .And (a::b::rest) pos) (tAnd tA tB'):=by
 intro wh pins s σ H Q I h
 refine isTrue_and (zo (ha pins s σ H _ I h) fun c s1 ⟨H1,I1,q1⟩=>?_)
 cases c with
 | true=>exact hb wh pins s1 σ H1 Q I1 q1
 | false=>exact ⟨H1,I1,q1⟩
theorem zur (ha:PT X a tA) (hb:PW X (.BoolOp .Or (b::rest) pos) tB'):PW X (.BoolOp .Or (a::b::rest) pos) (tOr tA tB'):=by
 intro wh pins s σ H Q I h
 refine isTrue_or (zo (ha pins s σ H _ I h) fun c s1 ⟨H1,I1,q1⟩=>?_)
 cases c with
 | true=>exact ⟨H1,I1,q1⟩
 | false=>exact hb wh pins s1 σ H1 Q I1 q1
theorem ztu (ha:PT X a tA):PT X (.UnaryOp .Not a pos) (tNot tA):=by
 intro pins s σ H Q I h
 exact isTrue_not (ha pins s σ H (fun c H1=>Q (!c) H1) I h)
def zvd (ta tb:TE):TE:=fun σ H Q=>ta σ H fun x H1=> ∃c,x= .bl c∧if c=true then tb σ H1 Q else Q (.bl false) H1
def zvl (ta:TE):TE:=fun σ H Q=>ta σ H fun x H1=> ∃c,x= .bl c∧Q (.bl (!c)) H1
theorem zr6 {op} {t:TE} (h:PE X a t):PE X (.BoolOp op [a] pos) t:=fun pins s σ H Q I hw=>BoolOp_one (h pins s σ H Q I hw)
theorem zsd (ha:PE X a ta) (hb:PE X (.BoolOp .And (b::rest) pos) tb):PE X (.BoolOp .And (a::b::rest) pos) (zvd ta tb):=by
 intro pins s σ H Q I h
 refine BoolOp_and (zo (ha pins s σ H _ I h) fun v s1 ⟨x,H1,I1,r1,q1⟩=>?_)
 obtain ⟨c,rfl,q1⟩:=q1
 cases r1
 refine wpAny_truthy_bool ?_
 cases c with
 | true=>exact hb pins s1 σ H1 Q I1 q1
 | false=>exact ⟨.bl false,H1,I1,rfl,q1⟩
theorem zte (ha:PE X a ta):PE X (.UnaryOp .Not a pos) (zvl ta):=by
 intro pins s σ H Q I h
 refine UnaryOp_ (zo (ha pins s σ H _ I h) fun v s1 ⟨x,H1,I1,r1,q1⟩=>?_)
 obtain ⟨c,rfl,q1⟩:=q1
 cases r1
 exact not_of (wpAny_truthy_bool ⟨.bl (!c),H1,I1,rfl,q1⟩)
end
def SqL (K:PySem.W.Frag) (H:Hp) (a:Addr) (xs:List V):Prop:=
 Rd H a (.lst xs)∨
  ∃(o:Obj) (its:Array Value) (n:Nat),K.lookup a=some o∧o.cls= .type "list" ∧o.dict=none∧o.data= .seq its n∧its.size≤sizeLine∧Vals xs its.toList
def SqT (K:PySem.W.Frag) (H:Hp) (a:Addr) (xs:List V):Prop:=
 Rd H a (.tup xs)∨
  ∃(o:Obj) (its:Array Value) (n:Nat),K.lookup a=some o∧o.cls= .type "tuple" ∧o.data= .seq its n∧its.size≤sizeLine∧Vals xs its.toList
def absV:Value→Option V
 | .none=>some .non
 | .bool b=>some (.bl b)
 | .int i _=>some (.int i)
 | .str x _=>some (.str x)
 | .bytes b _=>some (.byt b)
 | .float b _=>some (.flt b)
 | .ref a=>some (.ref a)
 | .type n=>some (.ty n)
 | _=>none
theorem RelV.abs {x:V} {u:Value} (r:RelV x u):absV u=some x:=by
 cases x with
 | non=>cases r;rfl
 | bl _=>cases r;rfl
 | int _=>obtain ⟨t,rfl⟩:=r;rfl
 | str _=>obtain ⟨t,rfl⟩:=r;rfl
 | byt _=>obtain ⟨t,rfl⟩:=r;rfl
 | flt _=>obtain ⟨t,rfl⟩:=r;rfl
 | ref _=>cases r;rfl
 | ty _=>cases r;rfl
theorem RelV.inj {x y:V} {u:Value} (r:RelV x u) (q:RelV y u):x=y:=Option.some.inj (r.abs.symm.trans q.abs)
theorem Vals.inj: ∀{xs ys:List V} {us:List Value},Vals xs us→Vals ys us→xs=ys
 | _,_,_,.nil,.nil=>rfl
 | _,_,_,.cons r t,.cons r' t'=>by rw [r.inj r',Vals.inj t t']
section
variable {X:Cx} {pins:List (Addr×Obj)} {σ:St} {H:Hp} {s:Shared} {a:Addr} {xs ys:List V}
theorem SqL.of {K:PySem.W.Frag} (h:H a=some (.lst xs)):SqL K H a xs:= .inl (.inl h)
theorem SqT.of {K:PySem.W.Frag} (h:H a=some (.tup xs)):SqT K H a xs:= .inl (.inl h)
theorem Inv.list (I:Inv X pins σ H s) (h:SqL X.K H a xs): ∃its:List Value,Vals xs its∧PlainL s.heap a its.toArray∧xs.length≤sizeLine:=by
 rcases h with h | ⟨o,its,n,hk,hc,hd,hs,hz,r⟩
 ·obtain ⟨z,its,n,r,e⟩:=h.ok I.hok
  exact ⟨its,r,⟨_,n,e,rfl,rfl,rfl⟩,z⟩
 ·refine ⟨its.toList,r,⟨o,n,I.kIn a o hk,hc,hd,by simpa using hs⟩,?_⟩
  have e:=r.length
  simp only [Array.length_toList] at e
  omega
theorem Inv.tuple (I:Inv X pins σ H s) (h:SqT X.K H a xs): ∃its:List Value,Vals xs its∧IsTup s.heap a its.toArray∧xs.length≤sizeLine:=by
 rcases h with h | ⟨o,its,n,hk,hc,hs,hz,r⟩
 ·obtain ⟨z,its,r,p⟩:=h.ok I.hok
  exact ⟨its,r,p,z⟩
 ·refine ⟨its.toList,r,⟨o,I.kIn a o hk,hc,n,by simpa using hs⟩,?_⟩
  have e:=r.length
  simp only [Array.length_toList] at e
  omega
theorem Inv.list_inj (I:Inv X pins σ H s) (h:SqL X.K H a xs) (h':SqL X.K H a ys):xs=ys:=by
 obtain ⟨its,r,⟨o,n,e,_,_,d⟩,_⟩:=I.list h
 obtain ⟨its',r',⟨o',n',e',_,_,d'⟩,_⟩:=I.list h'
 rw [e] at e';cases e'
 rw [d] at d'
 injection d' with d1 _
 have:its=its':=by simpa using congrArg Array.toList d1
 subst this
 exact r.inj r'
end
abbrev Cx.wish (X:Cx) (E:Value→Shared→Prop):Cx:={X with xe:=E}
theorem Cx.Ok.wish {X:Cx} (ok:X.Ok) (E:Value→Shared→Prop):(X.wish E).Ok:=
 ⟨ok.mod,ok.kind,ok.glob,ok.blt,ok.above,ok.inj,ok.has,ok.cab,ok.hd,ok.frames,ok.stk,ok.exf,ok.bs,ok.bsz,ok.noex,ok.exfs,ok.funs,ok.frf⟩
theorem Cx.Ok.unwish {X:Cx} {E:Value→Shared→Prop} (ok:(X.wish E).Ok):X.Ok:=
 ⟨ok.mod,ok.kind,ok.glob,ok.blt,ok.above,ok.inj,ok.has,ok.cab,ok.hd,ok.frames,ok.stk,ok.exf,ok.bs,ok.bsz,ok.noex,ok.exfs,ok.funs,ok.frf⟩
section
variable {X:Cx} {pins:List (Addr×Obj)} {σ:St} {H:Hp} {s:Shared} {E:Value→Shared→Prop}
theorem Inv.wish (I:Inv X pins σ H s) (E:Value→Shared→Prop):Inv (X.wish E) pins σ H s:=⟨I.ok.wish E,I.os,I.bare,I.base,I.loc,I.cell,I.free,I.freeC,I.pin,I.hok,I.len⟩
theorem Inv.unwish (I:Inv (X.wish E) pins σ H s):Inv X pins σ H s:=⟨I.ok.unwish,I.os,I.bare,I.base,I.loc,I.cell,I.free,I.freeC,I.pin,I.hok,I.len⟩
end
section
variable {X:Cx} {st:Stmt} {rest:List Stmt} {t u:TS} {e:Expr} {te:TE} {pos:Pos}
def zvi:TS:=fun D σ H=>D.nx σ H
def tSeq (t u:TS):TS:=fun D σ H=>t {D with nx:=u D} σ H
theorem zqt:z8 X [] zvi:=fun _ _ σ H _ I h=>wpAny_execs_nil ⟨σ,H,I,h⟩
theorem zo1 (h1:PS X st t) (h2:z8 X rest u):z8 X (st::rest) (tSeq t u):=by
 intro pins s σ H D I h
 refine wpAny_execs_cons (zo (h1 pins s σ H {D with nx:=u D} I h) fun f s1 q=>?_)
 cases f with
 | next=>
  obtain ⟨σ',H',I',q⟩:=q
  exact h2 pins s1 σ' H' D I' q
 | ret v=>exact q
 | brk=>exact q
 | cont=>exact q
theorem zmt (h1:PS X st t):z8 X [st] t:=by
 intro pins s σ H D I h
 refine wpAny_execs_cons (zo (h1 pins s σ H D I h) fun f s1 q=>?_)
 cases f with
 | next=>exact wpAny_execs_nil q
 | ret v=>exact q
 | brk=>exact q
 | cont=>exact q
theorem Inv.quiet {pins:List (Addr×Obj)} {σ:St} {H:Hp} {s:Shared} (I:Inv X pins σ H s):interactive X.env=false:=by simp [interactive,I.ok.kind]
def zuy (te:TE):TS:=fun D σ H=>te σ H fun _ H1=>D.nx σ H1
theorem znl (he:PE X e te) (hs:swapsWith e none pos.line X.env=pure false:=by rfl):PS X (.Expr e pos) (zuy te):=by
 intro pins s σ H D I h
 exact wpAny_Expr_any (zo (he pins s σ H _ I h) fun v s1 ⟨x,H1,I1,r1,q1⟩=>⟨σ,H1,I1,q1⟩) I.quiet hs
def tRet (te:TE):TS:=fun D σ H=>te σ H D.rt
theorem zld (he:PE X e te):PS X (.Return (some e) pos) (tRet te):=by
 intro pins s σ H D I h
 exact wpAny_Return_some (zo (he pins s σ H _ I h) fun v s1 ⟨x,H1,I1,r1,q1⟩=>⟨x,σ,H1,I1,r1,q1⟩)
def tIfS (c:TT) (t u:TS):TS:=fun D σ H=>c σ H fun b H1=>if b=true then t D σ H1 else u D σ H1
theorem zup {c:Expr} {a b:List Stmt} {tc:TT} (hc:PT X c tc) (ha:z8 X a t) (hb:z8 X b u):PS X (.If c a b pos) (tIfS tc t u):=by
 intro pins s σ H D I h
 refine wpAny_If (zo (hc pins s σ H _ I h) fun d s1 ⟨H1,I1,q1⟩=>?_)
 cases d with
 | true=>exact ha pins s1 σ H1 D I1 q1
 | false=>exact hb pins s1 σ H1 D I1 q1
end
abbrev TG:=V→St→Hp→(St→Hp→Prop)→Prop
abbrev TGs:=List V→St→Hp→(St→Hp→Prop)→Prop
def PG (X:Cx) (target:Expr) (t:TG):Prop:=
 ∀(pins:List (Addr×Obj)) (s:Shared) (σ:St) (H:Hp) (v:V) (u:Value) (Q:St→Hp→Prop),Inv X pins σ H s→RelV v u→t v σ H Q→
  wpAny (model X.prog X.w) X.A (assign target X.env u) (fun _ s'=> ∃σ' H',Inv X pins σ' H' s'∧Q σ' H') X.xe s
def qe (X:Cx) (ts:List Expr) (t:TGs):Prop:=
 ∀(pins:List (Addr×Obj)) (s:Shared) (σ:St) (H:Hp) (vs:List V) (us:List Value) (Q:St→Hp→Prop),Inv X pins σ H s→Vals vs us→t vs σ H Q→
  wpAny (model X.prog X.w) X.A (assignInOrder ((assignEach ts X.env).map (·.2)) us) (fun _ s'=> ∃σ' H',Inv X pins σ' H' s'∧Q σ' H') X.xe s
abbrev TSet:=V→V→V→Hp→(Hp→Prop)→Prop
def PSet (X:Cx) (t:TSet):Prop:=
 ∀(pins:List (Addr×Obj)) (s:Shared) (σ:St) (H:Hp) (o i v:V) (ov iv u:Value) (Q:Hp→Prop),Inv X pins σ H s→RelV o ov→RelV i iv→RelV v u→t o i v H Q→
  wpAny (model X.prog X.w) X.A (setItem ov iv u) (fun _ s'=> ∃H',Inv X pins σ H' s'∧Q H') X.xe s
abbrev TIp:=V→V→Hp→VK→Prop
def PIp (X:Cx) (op:Operator) (t:TIp):Prop:=
 ∀(pins:List (Addr×Obj)) (s:Shared) (σ:St) (H:Hp) (x y:V) (v u:Value) (Q:VK),Inv X pins σ H s→RelV x v→RelV y u→t x y H Q→
  wpAny (model X.prog X.w) X.A (inplaceOp op v u) (EP X pins σ Q) X.xe s
section
variable {X:Cx} {pos:Pos}
def zou (i:Nat):TG:=fun v σ H Q=>Q (σ.set i (some v)) H
theorem yR {i:Nat} {x:Str} (hN:X.N.Nodup) (hi:X.N[i]? =some x) (hx:Loc X.env.scope x) (hf:X.fn x=true∨X.env.scope.names.lookup x=some .local:=by first | exact .inl rfl | exact .inr rfl | assumption):PG X (.Name x pos) (zou i):=by
 intro pins s σ H v u Q I r h
 exact wpAny_assign_Name (zfe I hN hi hx r (fun s' I'=>⟨_,H,I',h⟩) hf)
def gNil:TGs:=fun vs σ H Q=>vs=[]∧Q σ H
def zsf (t:TG) (u:TGs):TGs:=fun vs σ H Q=> ∃v r,vs=v::r∧t v σ H fun σ' H'=>u r σ' H' Q
theorem zrs:qe X [] gNil:=by
 intro pins s σ H vs us Q I r h
 obtain ⟨e,h⟩:=h
 subst e
 cases r
 exact assignInOrder_nil ⟨σ,H,I,h⟩
theorem zcf {e:Expr} {es:List Expr} {t:TG} {u:TGs} (h1:PG X e t) (h2:qe X es u)
  (hs:(assignEach (e::es) X.env).map (·.2)=assign e X.env::(assignEach es X.env).map (·.2):=by rfl):qe X (e::es) (zsf t u):=by
 intro pins s σ H vs us Q I r h
 obtain ⟨v,vr,e1,h⟩:=h
 subst e1
 cases r with
 | cons r rr=>
  rw [hs]
  refine assignInOrder_cons (zo (h1 pins s σ H _ _ _ I r h) fun _ s1 ⟨σ1,H1,I1,q1⟩=>?_)
  exact h2 pins s1 σ1 H1 _ _ Q I1 rr q1
def gTup (K:PySem.W.Frag) (n:Nat) (t:TGs):TG:=fun v σ H Q=> ∃a xs,v= .ref a∧SqT K H a xs∧xs.length=n∧t xs σ H Q
theorem zjr {es:List Expr} {k:Nat} {t:TGs} {n:Nat} (hc:X.calm=true) (h:qe X es t)
  (hn:(assignEach es X.env).length=n:=by rfl) (hst:(assignEach es X.env).findIdx? (·.1)=none:=by rfl):PG X (.Tuple es k pos) (gTup X.K n t):=by
 intro pins s σ H v u Q I r hw
 obtain ⟨a,xs,e1,hq,hl,hw⟩:=hw
 subst e1
 cases r
 obtain ⟨its,rv,ht,hz⟩:=I.tuple hq
 refine assign_Tuple_tuple (I.ok.hd hc) ht (by simp [hn,←hl,rv.length]) hst fun h' hx=>?_
 have I1:Inv X pins σ H {s with heap:=h'}:=I.kept (t':=s.toks) fun b o e=>hx b o (Nat.ne_of_lt (Heap.lt_size e)) e
 exact h pins _ σ H xs _ Q I1 (by simpa using rv) hw
def gSub (to ti:TE) (t:TSet):TG:=fun v σ H Q=>to σ H fun o H1=>ti σ H1 fun i H2=>t o i v H2 fun H3=>Q σ H3
theorem zsi {o i:Expr} {to ti:TE} {t:TSet} (ho:PE X o to) (hi:PE X i ti) (hs:PSet X t)
  (ha: ∀v,assign (.Subscript o i pos) X.env v=(do
   let ov ←holding [v] (eval o X.env)
   let iv ←holding [v,ov] (eval i X.env)
   standAt pos
   holding [v,ov,iv] (setItem ov iv v)
   release [v,ov,iv] []):=by intro _;rfl):PG X (.Subscript o i pos) (gSub to ti t):=by
 intro pins s σ H v u Q I r h
 rw [ha]
 refine wpAny_bind (wpAny_holding (zo (ho pins s σ H _ I h) fun ov s1 ⟨x,H1,I1,r1,q1⟩=>?_))
 refine wpAny_bind (wpAny_holding (zo (hi pins s1 σ H1 _ I1 q1) fun iv s2 ⟨y,H2,I2,r2,q2⟩=>?_))
 refine wpAny_bind (wpAny_standAt (wpAny_bind (wpAny_holding (zo (hs pins s2 σ H2 x y v ov iv u _ I2 r1 r2 r q2) fun _ s3 ⟨H3,I3,q3⟩=>?_))))
 exact wpAny_release ⟨σ,H3,I3,q3⟩
def tAsg (te:TE) (g:TG):TS:=fun D σ H=>te σ H fun x H1=>g x σ H1 D.nx
theorem zto {tg e:Expr} {te:TE} {g:TG} (he:PE X e te) (hg:PG X tg g) (hs:swapsWithSole [tg] e pos.line X.env=pure false:=by rfl) (hw:swappedStores [tg] e X.env=pure none:=by rfl)
  (h1:(assignEach [tg] X.env).map (·.2)=[assign tg X.env]:=by rfl):PS X (.Assign [tg] e pos) (tAsg te g):=by
 intro pins s σ H D I h
 refine wpAny_Assign_stores (zo (he pins s σ H _ I h) fun v s1 ⟨x,H1,I1,r1,q1⟩=>?_) hs hw
 rw [h1]
 exact zo (hg pins s1 σ H1 x v _ I1 r1 q1) fun _ s2 q=>q
theorem zt0 {i:Nat} {x:Str} {e:Expr} {te:TE} {pos':Pos} (hN:X.N.Nodup) (hi:X.N[i]? =some x) (hx:Loc X.env.scope x) (he:PE X e te) (hs:swapsWith e (some (.Name x pos')) pos.line X.env=pure false:=by rfl) (hf:X.fn x=true∨X.env.scope.names.lookup x=some .local:=by first | exact .inl rfl | exact .inr rfl | assumption):
  PS X (.Assign [.Name x pos'] e pos) (tAsg te (zou i)):=by
 intro pins s σ H D I h
 refine wpAny_Assign_Name (zo (he pins s σ H _ I h) fun v s1 ⟨y,H1,I1,r1,q1⟩=>?_) hs
 exact zfe I1 hN hi hx r1 (fun s2 I2=>⟨_,H1,I2,q1⟩) hf
def tAug (i:Nat) (te:TE) (ti:TIp):TS:=fun D σ H=> ∃x,σ[i]? =some (some x)∧te σ H fun y H1=>ti x y H1 fun z H2=>D.nx (σ.set i (some z)) H2
theorem zlt {i:Nat} {x:Str} {e:Expr} {te:TE} {op:Operator} {ti:TIp} {pos':Pos} (hN:X.N.Nodup) (hi:X.N[i]? =some x) (hx:Loc X.env.scope x) (he:PE X e te) (ho:PIp X op ti) (hf:X.fn x=true∨X.env.scope.names.lookup x=some .local:=by first | exact .inl rfl | exact .inr rfl | assumption):
  PS X (.AugAssign (.Name x pos') op e pos) (tAug i te ti):=by
 intro pins s σ H D I h
 obtain ⟨v,e1,h⟩:=h
 obtain ⟨m,hn,hl⟩:=I.loc
 have vis:Vis X.env.scope x:=by rcases hx with k | k;exact .inl k;exact .inr (.inl k)
 obtain ⟨u,r,l⟩:=hl i x v hi e1 vis
 refine wpAny_AugAssign_Name ?_
 have go:wpAny (model X.prog X.w) X.A (eval e X.env) (fun w s₂=>wpAny (model X.prog X.w) X.A (inplaceOp op u w) (fun r s₃=>wpAny (model X.prog X.w) X.A (storeName X.env x r) (fun _=>SP X pins D .next) X.xe s₃) X.xe s₂) X.xe s:=by
  refine zo (he pins s σ H _ I h) fun w s1 ⟨y,H1,I1,r1,q1⟩=>?_
  refine zo (ho pins s1 σ H1 v y u w _ I1 r r1 q1) fun z s2 ⟨zv,H2,I2,r2,q2⟩=>?_
  exact zfe I2 hN hi hx r2 (fun s3 I3=>⟨_,H2,I3,q2⟩) hf
 rcases l with ⟨hk,hm⟩ | ⟨hk,c,hc,hcell⟩
 ·exact wpAny_loadName_local I.ok.kind hk hn hm go
 ·rcases hk with hk | hk
  ·exact wpAny_loadName_cell I.ok.kind hk hc hcell go
  ·rcases hx with k | k
   ·have:X.env.scope.names.lookup x=some .free:=hk
    rw [k] at this;cases this
   ·have:X.env.scope.names.lookup x=some .free:=hk
    rw [k] at this;cases this
def ipI (f:Int→Int→Int):TIp:=fun x y H Q=> ∃i j,x= .int i∧y= .int j∧Q (.int (f i j)) H
theorem zm4:PIp X .Add (ipI fun i j=>i+j):=by
 intro pins s σ H x y v u Q I r1 r2 h
 obtain ⟨i,j,e1,e2,q⟩:=h
 subst e1;subst e2
 obtain ⟨t,rfl⟩:=r1
 obtain ⟨t',rfl⟩:=r2
 exact iadd_int ⟨.int _,H,I.tok _,⟨_,rfl⟩,q⟩
end
structure It where
 go:Nat→Hp→Prop
 yld:Nat→Hp→V→Hp→Prop
 stop:Nat→Hp→Prop
def yj (X:Cx) (pins:List (Addr×Obj)) (H:Hp) (b:Addr):Prop:=
 H b=none∧b≠X.env.locals∧b∉X.fs∧(b∈X.ex∨X.s₀.heap.objs.size≤b)∧(∀x c,X.env.cells.lookup x=some c→c≠b)∧∀p∈X.pn++pins,p.1≠b
theorem Inv.fpOk {X:Cx} {pins:List (Addr×Obj)} {σ:St} {H H':Hp} {s:Shared} {b:Addr} (I:Inv X pins σ H s) (hb:s.heap.objs.size≤b) (hn:H' b=none):yj X pins H' b:=by
 refine ⟨hn,Nat.ne_of_gt (Nat.lt_of_lt_of_le I.lt hb),I.nofs hb,.inr (Nat.le_trans I.sz hb),fun x c e z=>?_,fun p hp z=>?_⟩
 ·obtain ⟨v,q⟩:=I.cell x c e
  exact absurd (Nat.lt_of_lt_of_le q.lt (by rw [z];exact hb)) (Nat.lt_irrefl _)
 ·exact absurd (Nat.lt_of_lt_of_le (Heap.lt_size (I.pin p hp).1) (by rw [z];exact hb)) (Nat.lt_irrefl _)
structure Turn (P:Program) (w:World) (K:PySem.W.Frag) (tg:Expr) (J:It) (fp:List Addr) (it:Addr) (tn:Nat→Heap→Prop):Prop where
 mem:it∈fp
 obj: ∀i h,tn i h→∀b∈fp,∃o,h.get? b=some o∧∀v,o.data≠ .cell v
 keep: ∀i h h',tn i h→(∀b∈fp,∀o,h.get? b=some o→h'.get? b=some o)→tn i h'
 item: ∀(X:Cx),X.prog=P→X.w=w→X.K=K→X.calm=true→∀(i:Nat) (pins:List (Addr×Obj)) (s:Shared) (σ:St) (H:Hp) (E:Value→Shared→Prop),Inv X pins σ H s→(∀b∈fp,yj X pins H b)→tn i s.heap→J.go i H→
  wpAny (model P w) X.A (pyNext (.ref it)) (fun r s1=> ∃u,r=some u∧
   wpAny (model P w) X.A (letOwnedTupleGo tg (.ref it) u) (fun _ s2=> ∃x H',Inv X pins σ H' s2∧RelV x u∧J.yld i H x H'∧tn (i+1) s2.heap∧∀b∈fp,H' b=none) E s1) E s
 done: ∀(X:Cx),X.prog=P→X.w=w→X.K=K→X.calm=true→∀(i:Nat) (pins:List (Addr×Obj)) (s:Shared) (σ:St) (H:Hp) (E:Value→Shared→Prop),Inv X pins σ H s→(∀b∈fp,yj X pins H b)→tn i s.heap→J.stop i H→
  wpAny (model P w) X.A (pyNext (.ref it)) (fun r s1=>r=none∧Inv X pins σ H s1) E s
 self: ∀(A:Around) (i:Nat) (s:Shared) (Q:Value→Shared→Prop) (E:Value→Shared→Prop),tn i s.heap→Q (.ref it) s→wpAny (model P w) A (pyIter (.ref it)) Q E s
abbrev TI:=St→Hp→(It→Hp→Prop)→Prop
def PIE (X:Cx) (pins:List (Addr×Obj)) (σ:St) (tg:Expr) (R:It→Hp→Prop) (itv:Value) (s2:Shared):Prop:=
 ∃(it:Addr) (fp:List Addr) (tn:Nat→Heap→Prop) (J:It) (H':Hp),itv= .ref it∧Inv X pins σ H' s2∧Turn X.prog X.w X.K tg J fp it tn∧tn 0 s2.heap∧(∀b∈fp,yj X pins H' b)∧R J H'
def PI (X:Cx) (tg iter:Expr) (wi:TI):Prop:=
 ∀(pins:List (Addr×Obj)) (s:Shared) (σ:St) (H:Hp) (R:It→Hp→Prop),Inv X pins σ H s→wi σ H R→
  wpAny (model X.prog X.w) X.A (eval iter X.env) (fun v s1=>wpAny (model X.prog X.w) X.A (pyIter v) (PIE X pins σ tg R) X.xe s1) X.xe s
theorem ztb {M:Model} {A:Around} {E:Value→Shared→Prop} {s:Shared} {tg:Expr} {it:Addr} {u:Value} {o:Obj} {n:String} {vs:Array Value} {Q:Unit→Shared→Prop} (ho:s.heap.get? it=some o) (hc:o.cls= .type n) (hd:o.data= .fields vs)
    (hn:["enumerate","zip","dict_itemiterator","dict_reverseitemiterator","odict_iterator","itertools.zip_longest","itertools.pairwise"].contains n=false) (hQ:Q () s):wpAny M A (letOwnedTupleGo tg (.ref it) u) Q E s:=by
  unfold letOwnedTupleGo
  cases tg <;> first
    | exact wpAny_pure hQ
    | (cases u <;> first
        | exact wpAny_pure hQ
        | (refine wpAny_bind (wpAny_load ho ?_)
           rw [hc,hd]
           show wpAny M A (if (["enumerate","zip","dict_itemiterator","dict_reverseitemiterator","odict_iterator","itertools.zip_longest","itertools.pairwise"].contains n && vs[0]? ==some (rawInt _))=true then _ else _) Q E s
           rw [if_neg (by intro h;rw [hn,Bool.false_and] at h;cases h)]
           exact wpAny_pure hQ))
def Itl (K:PySem.W.Frag) (a:Addr):It:=
 ⟨fun i H=> ∃xs x,SqL K H a xs∧xs[i]? =some x,fun i H x H'=>H'=H∧∀xs,SqL K H a xs→xs[i]? =some x,fun i H=> ∃xs,SqL K H a xs∧xs.length≤i⟩
def Itr (lo:Int) (n:Nat):It:=⟨fun i _=>i < n,fun i H x H'=>H'=H∧x= .int (lo+i),fun i _=>n≤i⟩
theorem zmc {P:Program} {w:World} {K:PySem.W.Frag} {tg:Expr} (a it:Addr):Turn P w K tg (Itl K a) [it] it (fun i h=>h.IsListIter it a i) where
 mem:=by simp
 obj:=fun i h st b hb=>by
  have e:b=it:=by simpa using hb
  subst e
  obtain ⟨o,e,c,d⟩:=st
  exact ⟨o,e,fun v z=>by rw [d] at z;cases z⟩
 keep:=fun i h h' st k=>st.at fun o e=>k it (by simp) o e
 item:=by
  intro X hP hw hK hc i pins s σ H E I hf st hg
  subst hP hw hK
  obtain ⟨xs,x,hq,hx⟩:=hg
  obtain ⟨its,rv,p,hz⟩:=I.list hq
  obtain ⟨u,hu,ru⟩:=rv.get hx
  obtain ⟨f0,f1,f2,f3,f4,f5⟩:=hf it (by simp)
  refine wpAny_pyNext_list_item st p.isList (x:=u) (by simpa using hu) fun h' st' sb=>?_
  have I1:Inv X pins σ H {s with heap:=h'}:=I.turned (t':=s.toks) (fun b o hb e=>(sb.2 b hb).trans e) f0 f1 f3 f4 f5
  obtain ⟨o,e,c,d⟩:=id st'
  exact ⟨u,rfl,ztb (s:={s with heap:=h'}) e c d (by decide) ⟨x,H,I1,ru,⟨rfl,fun ys hy=>by rw [I.list_inj hy hq];exact hx⟩,st',fun b hb=>(hf b hb).1⟩⟩
 done:=by
  intro X hP hw hK hc i pins s σ H E I hf st hg
  subst hP hw hK
  obtain ⟨xs,hq,hx⟩:=hg
  obtain ⟨its,rv,p,hz⟩:=I.list hq
  obtain ⟨f0,f1,f2,f3,f4,f5⟩:=hf it (by simp)
  have hl:=rv.length
  exact wpAny_pyNext_list_end (I.ok.hd hc) st p.isList (by simp;omega) fun h' eb=>⟨rfl,I.turned (t':=s.toks) (fun b o hb e=>eb b o hb e) f0 f1 f3 f4 f5⟩
 self:=fun _ _ _ _ _ st h=>wpAny_pyIter_listiter st h
theorem zky {P:Program} {w:World} {K:PySem.W.Frag} {tg:Expr} (it:Addr) (lo:Int) (n:Nat):Turn P w K tg (Itr lo n) [it] it (fun i h=>IsRangeIter h it (lo+(i:Nat)*1) ((n:Int) - (i:Nat)) 1) where
 mem:=by simp
 obj:=fun i h st b hb=>by
  have e:b=it:=by simpa using hb
  subst e
  exact ⟨_,st,fun v z=>by
   have z':Data.fields _=Data.cell v:=z
   cases z'⟩
 keep:=fun i h h' st k=>k it (by simp) _ st
 item:=by
  intro X hP hw hK hc i pins s σ H E I hf st hg
  subst hP hw hK
  obtain ⟨f0,f1,f2,f3,f4,f5⟩:=hf it (by simp)
  have W:=Walks.range (prog:=X.prog) (w:=X.w) (I.ok.hd hc) it lo 1 n
  refine W.item i s _ _ hg st fun v h' tk hv st' kk=>?_
  obtain ⟨t,rfl⟩:=hv
  have I1:Inv X pins σ H {s with heap:=h',toks:=tk}:=I.turned (fun b o hb e=>kk b o (by simpa using hb) e) f0 f1 f3 f4 f5
  refine ⟨_,rfl,ztb (s:={s with heap:=h',toks:=tk}) (n:="range_iterator") st' rfl rfl (by decide) ⟨.int (lo+i),H,I1,⟨t,?_⟩,⟨rfl,rfl⟩,st',fun b hb=>(hf b hb).1⟩⟩
  rw [Int.mul_one]
 done:=by
  intro X hP hw hK hc i pins s σ H E I hf st hg
  subst hP hw hK
  obtain ⟨f0,f1,f2,f3,f4,f5⟩:=hf it (by simp)
  exact wpAny_pyNext_range_end (I.ok.hd hc) st (by have:n≤i:=hg;omega) fun h' eb=>⟨rfl,I.turned (t':=s.toks) (fun b o hb e=>eb b o hb e) f0 f1 f3 f4 f5⟩
 self:=fun _ _ _ _ _ st h=>wpAny_pyIter_rangeiter st h
section
variable {X:Cx} {tg:Expr}
def zu8 (K:PySem.W.Frag) (tl:TE):TI:=fun σ H R=>tl σ H fun x H1=> ∃a,x= .ref a∧(∃xs,SqL K H1 a xs)∧R (Itl K a) H1
theorem zqr {l:Expr} {tl:TE} (hl:PE X l tl):PI X tg l (zu8 X.K tl):=by
 intro pins s σ H R I h
 refine zo (hl pins s σ H _ I h) fun v s1 ⟨x,H1,I1,r1,q1⟩=>?_
 obtain ⟨a,e,⟨xs,hq⟩,q⟩:=q1
 subst e
 cases r1
 obtain ⟨its,rv,p,hz⟩:=I1.list hq
 refine wpAny_pyIter_list p.isList ?_
 refine ⟨s1.heap.objs.size,[s1.heap.objs.size],_,_,H1,rfl,I1.kept (t':=s1.toks) fun b o e=>Heap.get?_push_of_some _ e,zmc a _,⟨_,Heap.get?_push_size _ rfl,rfl,rfl⟩,fun b hb=>?_,q⟩
 have e:b=s1.heap.objs.size:=by simpa using hb
 subst e
 exact I1.fpOk (Nat.le_refl _) (I1.hok.fresh (Nat.le_refl _))
theorem zo9 {pins:List (Addr×Obj)} {σ:St} {H:Hp} {s:Shared} {R:It→Hp→Prop} {E:Value→Shared→Prop} {lo hi:Int} {t u v:Tok} {tk:Nat} (I:Inv X pins σ H s) (h1: -(2 ^ 62)≤lo) (h2:lo < 2 ^ 62) (h3: -(2 ^ 62)≤hi) (h4:hi < 2 ^ 62)
  (q:R (Itr lo (hi - lo).toNat) H):wpAny (model X.prog X.w) X.A (pyIter (.ref s.heap.objs.size)) (PIE X pins σ tg R) E {s with heap:=s.heap.push {cls:= .type "range",data:= .fields #[.int lo t,.int hi u,.int 1 v]},toks:=tk}:=by
 refine wpAny_pyIter_range (IsRange.new ..) (small_one h1 h2 h3 h4) ?_
 have I1:Inv X pins σ H {s with heap:=s.heap.push {cls:= .type "range",data:= .fields #[.int lo t,.int hi u,.int 1 v]},toks:=tk}:=I.kept fun b o e=>Heap.get?_push_of_some _ e
 refine ⟨(s.heap.push {cls:= .type "range",data:= .fields #[.int lo t,.int hi u,.int 1 v]}).objs.size,[(s.heap.push {cls:= .type "range",data:= .fields #[.int lo t,.int hi u,.int 1 v]}).objs.size],_,_,H,rfl,
  I1.kept (t':=tk) fun b o e=>Heap.get?_push_of_some _ e,zky _ lo (hi - lo).toNat,?_,fun b hb=>?_,q⟩
 ·have e1:lo+((0:Nat):Int)*1=lo:=by simp
  have e2:(((hi - lo).toNat:Nat):Int) - ((0:Nat):Int)=Builtin.Range.rangeSize lo hi 1:=by rw [rangeSize_one];split <;> omega
  show IsRangeIter _ _ (lo+((0:Nat):Int)*1) ((((hi - lo).toNat:Nat):Int) - ((0:Nat):Int)) 1
  rw [e1,e2]
  exact Heap.get?_push_size _ rfl
 ·have e:b=(s.heap.push {cls:= .type "range",data:= .fields #[.int lo t,.int hi u,.int 1 v]}).objs.size:=by simpa using hb
  subst e
  exact I1.fpOk (Nat.le_refl _) (I1.hok.fresh (Nat.le_refl _))
def zuu (ta:TA):TI:=fun σ H R=>ta σ H fun vs H1=> ∃j:Int,vs=[.int j]∧ -(2 ^ 62)≤j∧j < 2 ^ 62∧R (Itr 0 j.toNat) H1
theorem znh {a:Expr} {ta:TA} {p pos:Pos} (hg:Gl X "range") (hm:X.mg "range" =none) (ha:PA X [a] ta) (hs:starEach [a] X.env=[(false,eval a X.env)]:=by rfl):PI X tg (.Call (.Name "range" p) [a] [] pos) (zuu ta):=by
 intro pins s σ H R I h
 refine Call_ (zff I hg hm boot_range (PyProof.Rows.callWith_type1 (zo (ha pos pins s σ H _ I h) fun us s1 ⟨vs,H1,I1,r1,q1⟩=>?_) hs rfl))
 obtain ⟨j,e,q1,q2,q⟩:=q1
 subst e
 cases r1 with
 | cons r rr=>
  cases rr
  obtain ⟨t,rfl⟩:=r
  exact call_range_1 (zo9 I1 (by omega) (by omega) q1 q2 (by simpa using q))
def tFor (wi:TI) (g:TG) (tb:TS):TS:=fun D σ H=>wi σ H fun J H1=> ∃W:Nat→Nat→St→Hp→Prop,(∃m,W 0 m σ H1)∧∀i m σ H,W i m σ H→
 (J.stop i H∧D.nx σ H)∨(J.go i H∧∃N:St→Hp→Prop,(∀σ' H',N σ' H'→∃m',m' < m∧W (i+1) m' σ' H')∧∀x H',J.yld i H x H'→g x σ H' fun σ2 H2=>tb {D with nx:=N,ct:=N,bk:=D.nx} σ2 H2)
def zh9 (fp:List Addr) (h:Heap):List (Addr×Obj):=fp.filterMap fun b=>(h.get? b).map fun o=>(b,o)
theorem zdl {fp:List Addr} {h:Heap} {b:Addr} {o:Obj} (hb:b∈fp) (e:h.get? b=some o):(b,o)∈zh9 fp h:=List.mem_filterMap.mpr ⟨b,hb,by rw [e];rfl⟩
theorem zmi {fp:List Addr} {h:Heap} {p:Addr×Obj} (hp:p∈zh9 fp h):p.1∈fp∧h.get? p.1=some p.2:=by
 obtain ⟨b,hb,e⟩:=List.mem_filterMap.mp hp
 cases q:h.get? b with
 | none=>rw [q] at e;cases e
 | some o=>
  rw [q] at e
  have e':(b,o)=p:=Option.some.inj e
  subst e'
  exact ⟨hb,q⟩
theorem Inv.pinned {pins:List (Addr×Obj)} {σ:St} {H:Hp} {s:Shared} {fp:List Addr} (I:Inv X pins σ H s) (hf: ∀b∈fp,yj X pins H b) (ho: ∀b∈fp,∃o,s.heap.get? b=some o∧∀v,o.data≠ .cell v):Inv X (pins++zh9 fp s.heap) σ H s:=
 I.pins_of fun p hp=>(List.mem_append.mp hp).elim (fun z=>I.pin p (List.mem_append_right _ z)) fun z=>by
  obtain ⟨hb,e⟩:=zmi z
  obtain ⟨f0,f1,f2,_⟩:=hf p.1 hb
  obtain ⟨o,e',d⟩:=ho p.1 hb
  rw [e] at e';cases e'
  exact ⟨e,f0,f1,f2,d⟩
theorem Inv.unpinned {pins pl:List (Addr×Obj)} {σ:St} {H:Hp} {s:Shared} (I:Inv X (pins++pl) σ H s):Inv X pins σ H s:=I.pins_of fun p hp=>I.pin p (List.mem_append_right _ (List.mem_append_left _ hp))
theorem ztc {iter:Expr} {body:List Stmt} {wi:TI} {g:TG} {tb:TS} {pos:Pos} (hp:PassesOwn (model X.prog X.w) X.A X.env X.xe) (hc:X.calm=true) (hi:PI X tg iter wi) (hg:PG X tg g) (hb:z8 X body tb)
  (hs: ∀x,foldedSetIterable iter X.env x=pure x:=by intro _;rfl):PS X (.For tg iter body [] pos) (tFor wi g tb):=by
 intro pins s σ H D I h
 refine wpAny_For (zo (hi pins s σ H _ I h) fun v s1 h1=>zo h1 fun itv s2 h2=>?_) hs
 obtain ⟨it,fp,tn,J,H2,e,I2,T,st2,f2,W,⟨m0,w0⟩,turn⟩:=h2
 subst e
 have stat: ∀{H':Hp},(∀b∈fp,H' b=none)→∀b∈fp,yj X pins H' b:=fun hn b hb=>⟨hn b hb,(f2 b hb).2⟩
 refine codeAny_forLoop_any (fun n s'=> ∃i σ' H',Inv X pins σ' H' s'∧tn i s'.heap∧(∀b∈fp,H' b=none)∧W i n σ' H') ?_ m0 ⟨0,σ,H2,I2,st2,fun b hb=>(f2 b hb).1,w0⟩
 rintro n s3 ⟨i,σ3,H3,I3,st3,fr3,w3⟩
 rcases turn i n σ3 H3 w3 with ⟨stop,qn⟩ | ⟨go,N,hN,step⟩
 ·refine wpAny_passesOwn hp (zo (T.done X rfl rfl rfl hc i pins s3 σ3 H3 X.xe I3 (stat fr3) st3 stop) fun r s4 ⟨hr,I4⟩=>?_)
  subst hr
  exact wpAny_execs_nil ⟨σ3,H3,I4,qn⟩
 ·refine wpAny_passesOwn hp (zo (T.item X rfl rfl rfl hc i pins s3 σ3 H3 X.xe I3 (stat fr3) st3 go) fun r s4 ⟨u,hr,h4⟩=>?_)
  subst hr
  refine wpAny_passesOwn hp (zo h4 fun _ s5 ⟨x,H5,I5,r5,y5,st5,fr5⟩=>?_)
  have I5':=I5.pinned (stat fr5) (T.obj _ _ st5)
  refine wpAny_passesOwn hp (zo (hg _ s5 σ3 H5 x u _ I5' r5 (step x H5 y5)) fun _ s6 ⟨σ6,H6,I6,q6⟩=>?_)
  refine wpAny_passesOwn hp (zo (hb _ s6 σ6 H6 _ I6 q6) fun f s7 q7=>?_)
  have again: ∀{σ7:St} {H7:Hp},Inv X (pins++zh9 fp s5.heap) σ7 H7 s7→N σ7 H7→∃m,m < n∧∃i σ' H',Inv X pins σ' H' s7∧tn i s7.heap∧(∀b∈fp,H' b=none)∧W i m σ' H':=fun {σ7 H7} I7 n7=>by
   obtain ⟨m',hm,w7⟩:=hN σ7 H7 n7
   refine ⟨m',hm,i+1,σ7,H7,I7.unpinned,T.keep _ _ _ st5 fun b hb o e=>(I7.pin (b,o) (List.mem_append_right _ (List.mem_append_right _ (zdl hb e)))).1,fun b hb=>?_,w7⟩
   obtain ⟨o,e,d⟩:=T.obj _ _ st5 b hb
   exact (I7.pin (b,o) (List.mem_append_right _ (List.mem_append_right _ (zdl hb e)))).2.1
  cases f with
  | next=>obtain ⟨σ7,H7,I7,n7⟩:=q7;exact again I7 n7
  | cont=>obtain ⟨σ7,H7,I7,n7⟩:=q7;exact again I7 n7
  | brk=>obtain ⟨σ7,H7,I7,q7⟩:=q7;exact ⟨σ7,H7,I7.unpinned,q7⟩
  | ret v=>obtain ⟨x7,σ7,H7,I7,r7,q7⟩:=q7;exact ⟨x7,σ7,H7,I7.unpinned,r7,q7⟩
end
abbrev R2:=V→V→Hp→VK→Prop
def OpR (X:Cx) (f:Value→Value→Sem Value) (r:R2):Prop:=
 ∀(pins:List (Addr×Obj)) (s:Shared) (σ:St) (H:Hp) (x y:V) (v u:Value) (Q:VK),Inv X pins σ H s→RelV x v→RelV y u→r x y H Q→
  wpAny (model X.prog X.w) X.A (f v u) (EP X pins σ Q) X.xe s
def UnR (X:Cx) (f:Value→Sem Value) (r:V→Hp→VK→Prop):Prop:=
 ∀(pins:List (Addr×Obj)) (s:Shared) (σ:St) (H:Hp) (x:V) (v:Value) (Q:VK),Inv X pins σ H s→RelV x v→r x H Q→
  wpAny (model X.prog X.w) X.A (f v) (EP X pins σ Q) X.xe s
def yA (X:Cx) (f:Value) (r:List V→Hp→VK→Prop):Prop:=
 ∀(pins:List (Addr×Obj)) (s:Shared) (σ:St) (H:Hp) (xs:List V) (us:List Value) (Q:VK),Inv X pins σ H s→Vals xs us→r xs H Q→
  wpAny (model X.prog X.w) X.A (call f us) (EP X pins σ Q) X.xe s
def TruR (X:Cx) (r:V→Hp→(Bool→Hp→Prop)→Prop):Prop:=
 ∀(pins:List (Addr×Obj)) (s:Shared) (σ:St) (H:Hp) (x:V) (v:Value) (Q:Bool→Hp→Prop),Inv X pins σ H s→RelV x v→r x H Q→
  wpAny (model X.prog X.w) X.A (truthy v) (TP X pins σ Q) X.xe s
def tOp (r:R2) (ta tb:TE):TE:=fun σ H Q=>ta σ H fun x H1=>tb σ H1 fun y H2=>r x y H2 Q
def tUn (r:V→Hp→VK→Prop) (ta:TE):TE:=fun σ H Q=>ta σ H fun x H1=>r x H1 Q
def rI (C:Int→Int→Prop) (g:Int→Int→V):R2:=fun x y H Q=> ∃i j,x= .int i∧y= .int j∧C i j∧Q (g i j) H
def yE (g:Int→Int→V):R2:=fun x y H Q=> ∃i j,x= .int i∧y= .int j∧Q (g i j) H
def rU (g:Int→V):V→Hp→VK→Prop:=fun x H Q=> ∃i,x= .int i∧Q (g i) H
section
variable {X:Cx} {a b c:Expr} {ta tb tc:TE} {pos:Pos}
theorem binT (ha:PE X a ta) (hb:PE X b tb) {pins:List (Addr×Obj)} {s:Shared} {σ:St} {H:Hp} {R:V→V→Hp→Prop} (I:Inv X pins σ H s)
  (h:ta σ H fun x H1=>tb σ H1 fun y H2=>R x y H2) {Q:Value→Shared→Prop} {f:Value→Value→Sem Value}
  (hf: ∀v u s2 x y H2,Inv X pins σ H2 s2→RelV x v→RelV y u→R x y H2→wpAny (model X.prog X.w) X.A (f v u) Q X.xe s2):
  wpAny (model X.prog X.w) X.A (eval a X.env) (fun v s₁=>wpAny (model X.prog X.w) X.A (eval b X.env) (fun u s₂=>wpAny (model X.prog X.w) X.A (f v u) Q X.xe s₂) X.xe s₁) X.xe s:=by
 refine zo (ha pins s σ H _ I h) fun v s1 ⟨x,H1,I1,r1,q1⟩=>?_
 refine zo (hb pins s1 σ H1 _ I1 q1) fun u s2 ⟨y,H2,I2,r2,q2⟩=>?_
 exact hf v u s2 x y H2 I2 r1 r2 q2
theorem zvo {op:Operator} {r:R2} (ho:OpR X (binaryOp op) r) (ha:PE X a ta) (hb:PE X b tb):PE X (.BinOp a op b pos) (tOp r ta tb):=by
 intro pins s σ H Q I h
 exact wpAny_BinOp (binT ha hb I h fun v u s2 x y H2 I2 rx ry q=>ho pins s2 σ H2 x y v u Q I2 rx ry q)
theorem zvq {op:UnaryOp} {r:V→Hp→VK→Prop} (ho:UnR X (unaryOp op) r) (ha:PE X a ta):PE X (.UnaryOp op a pos) (tUn r ta):=by
 intro pins s σ H Q I h
 exact UnaryOp_ (zo (ha pins s σ H _ I h) fun v s1 ⟨x,H1,I1,r1,q1⟩=>ho pins s1 σ H1 x v Q I1 r1 q1)
theorem opI {f:Value→Value→Sem Value} {C:Int→Int→Prop} {g:Int→Int→Int}
  (rule: ∀(i j:Int) (t u:Tok) (s:Shared) (Q:Value→Shared→Prop) (E:Value→Shared→Prop),C i j→Q (.int (g i j) s.toks) {s with toks:=s.toks+1}→wpAny (model X.prog X.w) X.A (f (.int i t) (.int j u)) Q E s):
  OpR X f (rI C fun i j=> .int (g i j)):=by
 intro pins s σ H x y v u Q I rx ry h
 obtain ⟨i,j,rfl,rfl,hc,q⟩:=h
 obtain ⟨t,rfl⟩:=rx
 obtain ⟨t',rfl⟩:=ry
 exact rule i j t t' s _ _ hc ⟨.int (g i j),H,I.tok _,⟨_,rfl⟩,q⟩
theorem opI0 {f:Value→Value→Sem Value} {g:Int→Int→Int}
  (rule: ∀(i j:Int) (t u:Tok) (s:Shared) (Q:Value→Shared→Prop) (E:Value→Shared→Prop),Q (.int (g i j) s.toks) {s with toks:=s.toks+1}→wpAny (model X.prog X.w) X.A (f (.int i t) (.int j u)) Q E s):
  OpR X f (yE fun i j=> .int (g i j)):=by
 intro pins s σ H x y v u Q I rx ry h
 obtain ⟨i,j,rfl,rfl,q⟩:=h
 obtain ⟨t,rfl⟩:=rx
 obtain ⟨t',rfl⟩:=ry
 exact rule i j t t' s _ _ ⟨.int (g i j),H,I.tok _,⟨_,rfl⟩,q⟩
theorem opB0 {f:Value→Value→Sem Value} {g:Int→Int→Bool}
  (rule: ∀(i j:Int) (t u:Tok) (s:Shared) (Q:Value→Shared→Prop) (E:Value→Shared→Prop),Q (.bool (g i j)) s→wpAny (model X.prog X.w) X.A (f (.int i t) (.int j u)) Q E s):
  OpR X f (yE fun i j=> .bl (g i j)):=by
 intro pins s σ H x y v u Q I rx ry h
 obtain ⟨i,j,rfl,rfl,q⟩:=h
 obtain ⟨t,rfl⟩:=rx
 obtain ⟨t',rfl⟩:=ry
 exact rule i j t t' s _ _ ⟨.bl (g i j),H,I,rfl,q⟩
def CDiv (i j:Int):Prop:=0 < j∧j < 1073741824
def CPow (i j:Int):Prop:=0≤j∧j≤1000000∧i.natAbs < 2 ^ 64
def CMul (i j:Int):Prop:=(-(2 ^ 64) < i∧i < 2 ^ 64)∨(-(2 ^ 64) < j∧j < 2 ^ 64)
theorem CMul.ok {i j:Int} (h:CMul i j):IntMulOk i j:=by
 rcases h with ⟨h1,h2⟩ | ⟨h1,h2⟩
 ·exact .of_left (intBits_le_64 h1 h2)
 ·exact .of_right (intBits_le_64 h1 h2)
theorem op_add:OpR X (binaryOp .Add) (yE fun i j=> .int (i+j)):=opI0 fun _ _ _ _ _ _ _ q=>add_int q
theorem zmo:OpR X (binaryOp .Sub) (yE fun i j=> .int (i - j)):=opI0 fun _ _ _ _ _ _ _ q=>sub_int q
theorem op_mul:OpR X (binaryOp .Mult) (rI CMul fun i j=> .int (i*j)):=opI fun _ _ _ _ _ _ _ hc q=>mul_int q hc.ok
theorem zdz:OpR X (binaryOp .FloorDiv) (rI CDiv fun i j=> .int (i / j)):=opI fun i j _ _ _ _ _ hc q=>by
 have h1:(0:Int) < j:=hc.1
 have h2:j < 1073741824:=hc.2
 exact floordiv_int (by omega) (by rw [Int.fdiv_eq_ediv_of_nonneg i (by omega)];exact q) (.inl (PyProof.noPylong_small (by omega)))
theorem yG:OpR X (binaryOp .Mod) (rI (fun _ j=>0 < j) fun i j=> .int (i % j)):=opI fun i j _ _ _ _ _ hc q=>by
 have h1:(0:Int) < j:=hc
 exact mod_int' (by omega) (by rw [Int.fmod_eq_emod_of_nonneg i (by omega)];exact q)
theorem zpn:OpR X (binaryOp .Pow) (rI CPow fun i j=> .int (i ^ j.toNat)):=opI fun _ _ _ _ _ _ _ hc q=>pow_int_small hc.1 hc.2.1 hc.2.2 q
theorem unI {f:Value→Sem Value} {g:Int→Int}
  (rule: ∀(i:Int) (t:Tok) (s:Shared) (Q:Value→Shared→Prop) (E:Value→Shared→Prop),Q (.int (g i) s.toks) {s with toks:=s.toks+1}→wpAny (model X.prog X.w) X.A (f (.int i t)) Q E s):
  UnR X f (rU fun i=> .int (g i)):=by
 intro pins s σ H x v Q I rx h
 obtain ⟨i,rfl,q⟩:=h
 obtain ⟨t,rfl⟩:=rx
 exact rule i t s _ _ ⟨.int (g i),H,I.tok _,⟨_,rfl⟩,q⟩
theorem zub:UnR X (unaryOp .USub) (rU fun i=> .int (-i)):=unI fun _ _ _ _ _ q=>neg_int q
end
section
variable {X:Cx} {a b c:Expr} {ta tb tc:TE} {pos:Pos}
theorem zta {pins:List (Addr×Obj)} {σ:St} {H:Hp} {s:Shared} {Q:VK} {k k':Bool} (I:Inv X pins σ H s) (q:Q (.bl k) H) (e:k=k'):EP X pins σ Q (.bool k') s:=by
 subst e
 exact ⟨.bl k,H,I,rfl,q⟩
theorem zs8:OpR X (compareOp .Lt) (yE fun i j=> .bl (decide (i < j))):=opB0 fun _ _ _ _ _ _ _ q=>lt_int q
theorem zst:OpR X (compareOp .LtE) (yE fun i j=> .bl (decide (i≤j))):=opB0 fun _ _ _ _ _ _ _ q=>le_int q
theorem zsu:OpR X (compareOp .Gt) (yE fun i j=> .bl (decide (j < i))):=opB0 fun _ _ _ _ _ _ _ q=>gt_int q
theorem zm9:OpR X (compareOp .Is) (fun x y H Q=>y= .non∧Q (.bl (decide (x= .non))) H):=by
 intro pins s σ H x y v u Q I rx ry h
 obtain ⟨rfl,q⟩:=h
 cases ry
 refine is_none_gen (zta I q ?_)
 cases x <;> first
  | (cases rx;rfl)
  | (obtain ⟨t,rfl⟩:=rx;rfl)
theorem OpR.or {f:Value→Value→Sem Value} {r r':R2} (h:OpR X f r) (h':OpR X f r'):OpR X f (fun x y H Q=>r x y H Q∨r' x y H Q):=by
 intro pins s σ H x y v u Q I rx ry q
 rcases q with q | q
 ·exact h pins s σ H x y v u Q I rx ry q
 ·exact h' pins s σ H x y v u Q I rx ry q
theorem yk (b:Expr) {op:CmpOp} (h:op≠ .In:=by decide) (h2:op≠ .NotIn:=by decide):behindInMarks op b=false:=by
 have e1:(op==CmpOp.In)=false:=by cases op <;> first | rfl | exact absurd rfl h
 have e2:(op==CmpOp.NotIn)=false:=by cases op <;> first | rfl | exact absurd rfl h2
 cases b <;> simp [behindInMarks,e1,e2]
theorem zqx {op:CmpOp} {r:R2} (ho:OpR X (compareOp op) r) (ha:PE X a ta) (hb:PE X b tb) (hm:behindInMarks op b=false):PE X (.Compare a [op] [b] pos) (tOp r ta tb):=by
 intro pins s σ H Q I h
 exact wpAny_Compare1 (binT ha hb I h fun v u s2 x y H2 I2 rx ry q=>ho pins s2 σ H2 x y v u Q I2 rx ry q) hm
def zu5 (t:TE):TT:=fun σ H Q=>t σ H fun x H'=> ∃k,x= .bl k∧Q k H'
theorem zrr {op:CmpOp} {r:R2} (ho:OpR X (compareOp op) r) (ha:PE X a ta) (hb:PE X b tb) (hm:behindInMarks op b=false):PT X (.Compare a [op] [b] pos) (zu5 (tOp r ta tb)):=by
 intro pins s σ H Q I h
 refine wpAny_isTrue_Compare1 (zo (ha pins s σ H _ I h) fun v s1 ⟨x,H1,I1,r1,q1⟩=>zo (hb pins s1 σ H1 _ I1 q1) fun u s2 ⟨y,H2,I2,r2,q2⟩=>
  zo (ho pins s2 σ H2 x y v u _ I2 r1 r2 q2) fun c s3 ⟨z,H3,I3,r3,k,e,q3⟩=>?_) hm
 subst e
 cases r3
 exact wpAny_truthy_bool ⟨H3,I3,q3⟩
def zp6 (r r':R2) (ta tb tc:TE):TE:=fun σ H Q=>ta σ H fun x H1=>tb σ H1 fun y H2=>r x y H2 fun z H3=> ∃k,z= .bl k∧
 (if k=true then tc σ H3 fun w' H4=>r' y w' H4 Q else Q (.bl false) H3)
theorem zow {op op':CmpOp} {r r':R2} (ho:OpR X (compareOp op) r) (ho':OpR X (compareOp op') r') (ha:PE X a ta) (hb:PE X b tb) (hc:PE X c tc)
  (hm:lastMarks [op,op'] [b,c]=false:=by with_unfolding_all rfl):PE X (.Compare a [op,op'] [b,c] pos) (zp6 r r' ta tb tc):=by
 intro pins s σ H Q I h
 refine Compare_chain (zo (ha pins s σ H _ I h) fun v s1 ⟨x,H1,I1,r1,q1⟩=>chain_link (zo (hb pins s1 σ H1 _ I1 q1) fun u s2 ⟨y,H2,I2,r2,q2⟩=>
  zo (ho pins s2 σ H2 x y v u _ I2 r1 r2 q2) fun d s3 ⟨z,H3,I3,r3,k,e,q3⟩=>?_)) hm
 subst e
 cases r3
 refine wpAny_truthy_bool ?_
 cases k with
 | false=>exact ite_ff ⟨.bl false,H3,I3,rfl,q3⟩
 | true=>exact ite_tt (chain_last (zo (hc pins s3 σ H3 _ I3 q3) fun w' s4 ⟨z',H4,I4,r4,q4⟩=>ho' pins s4 σ H4 y z' u w' Q I4 r2 r4 q4))
def TruV (K:PySem.W.Frag) (x:V) (H:Hp) (k:Bool):Prop:=
 match x with
 | .non=>k=false
 | .bl b=>k=b
 | .int i=>k=(i !=0)
 | .str y=>y.length≤sizeLine∧k=((y.length:Int) !=0)
 | .byt y=>y.size≤sizeLine∧k=((y.size:Int) !=0)
 | .ref p=>(∃xs,SqL K H p xs∧k= !xs.isEmpty)∨(∃xs,SqT K H p xs∧k= !xs.isEmpty)∨∃kvs,H p=some (.dK kvs)∧k= !kvs.isEmpty
 | _=>False
theorem zki {κ:Type} {kvs:List (κ×V)} {vs:List (κ×Value)} (r:KV kvs vs):(!vs.isEmpty)= !kvs.isEmpty:=by
 cases r <;> rfl
theorem zgi {xs:List V} {its:List Value} (r:Vals xs its):(!its.toArray.isEmpty)= !xs.isEmpty:=by
 cases r <;> simp
theorem zgk:(sizeLine:Nat) < 2 ^ 63:=by rw [sizeLine_eq];decide
theorem zsh:TruR X (fun x H Q=> ∃k,TruV X.K x H k∧Q k H):=by
 intro pins s σ H x v Q I rx h
 obtain ⟨k,e,q⟩:=h
 have hl:=zgk
 have hs:sizeLine=16777216:=sizeLine_eq
 cases x with
 | non=>
  cases rx
  have e':k=false:=e
  subst e'
  exact truthy_none ⟨H,I,q⟩
 | bl b=>
  cases rx
  have e':k=b:=e
  subst e'
  exact wpAny_truthy_bool ⟨H,I,q⟩
 | int i=>
  obtain ⟨t,rfl⟩:=rx
  have e':k=(i !=0):=e
  subst e'
  exact PySem.P.truthy_int ⟨H,I,q⟩
 | str y=>
  obtain ⟨t,rfl⟩:=rx
  obtain ⟨hy,e'⟩:y.length≤sizeLine∧k=((y.length:Int) !=0):=e
  subst e'
  exact PySem.P.truthy_str (by omega) ⟨H,I.tok _,q⟩
 | byt y=>
  obtain ⟨t,rfl⟩:=rx
  obtain ⟨hy,e'⟩:y.size≤sizeLine∧k=((y.size:Int) !=0):=e
  subst e'
  exact PySem.W.truthy_bytes (by omega) ⟨H,I.tok _,q⟩
 | ref p=>
  cases rx
  have e':(∃xs,SqL X.K H p xs∧k= !xs.isEmpty)∨(∃xs,SqT X.K H p xs∧k= !xs.isEmpty)∨∃kvs,H p=some (.dK kvs)∧k= !kvs.isEmpty:=e
  rcases e' with ⟨xs,hx,e'⟩ | ⟨xs,hx,e'⟩ | ⟨kvs,hx,e'⟩
  ·subst e'
   obtain ⟨its,r,pl,hz⟩:=I.list hx
   have hlen:=r.length
   exact wpAny_truthy_list pl.isList (by simp only [List.size_toArray];omega) ⟨H,I.tok _,by rw [zgi r];exact q⟩
  ·subst e'
   obtain ⟨its,r,pl,hz⟩:=I.tuple hx
   have hlen:=r.length
   exact truthy_tuple pl (by simp only [List.size_toArray];omega) ⟨H,I.tok _,by rw [zgi r];exact q⟩
  ·subst e'
   obtain ⟨hz,hS,vs,r,m⟩:kvs.length≤sizeLine∧(p==sysModules)=false∧∃vs,KV kvs vs∧s.heap.DictOf (zd5 X.prog X.w) p vs:=I.hok p _ hx
   have hlen:kvs.length=vs.length:=Paired.length r
   exact wpAny_truthy_dict hS m (by omega) ⟨H,I.tok _,by rw [zki r];exact q⟩
 | _=>exact (show False from e).elim
theorem zn2 (ha:PE X a ta) (he: ∀whole,isTrue a X.env whole=(do let v ←whole;standAt a.pos;holding [v] (truthy v))):
  PT X a (fun σ H Q=>ta σ H fun x H'=> ∃k,TruV X.K x H' k∧Q k H'):=by
 intro pins s σ H Q I h
 exact isTrue_plain (zo (ha pins s σ H _ I h) fun v s1 ⟨x,H1,I1,r1,q1⟩=>zsh pins s1 σ H1 x v Q I1 r1 q1) (he _)
theorem op_add_str:OpR X (binaryOp .Add) (fun x y H Q=> ∃i j,x= .str i∧y= .str j∧i.length+j.length≤sizeLine∧Q (.str (i++j)) H):=by
 intro pins s σ H x y v u Q I rx ry h
 obtain ⟨i,j,rfl,rfl,hz,q⟩:=h
 obtain ⟨t,rfl⟩:=rx
 obtain ⟨t',rfl⟩:=ry
 exact add_str (fun t' tk=>⟨.str (i++j),H,I.tok _,⟨_,rfl⟩,q⟩) hz
theorem zm1 {x:V} {us:List Value} (r:Vals [x] us): ∃u,us=[u]∧RelV x u:=by
 cases r with
 | cons r1 r2=>cases r2;exact ⟨_,rfl,r1⟩
theorem znz {x y:V} {us:List Value} (r:Vals [x,y] us): ∃u w',us=[u,w']∧RelV x u∧RelV y w':=by
 cases r with
 | cons r1 r2=>
  cases r2 with
  | cons r3 r4=>cases r4;exact ⟨_,_,rfl,r1,r3⟩
theorem zh7 (hc:X.calm=true):yA X (.builtin "max") (fun xs H Q=> ∃i j,xs=[.int i,.int j]∧Q (.int (if j > i then j else i)) H):=by
 intro pins s σ H xs us Q I r h
 obtain ⟨i,j,rfl,q⟩:=h
 obtain ⟨u,w',rfl,⟨t,rfl⟩,⟨t',rfl⟩⟩:=znz r
 refine max_two_ints (I.ok.hd hc) fun h' tk k=>⟨_,H,I.kept k,?_,q⟩
 by_cases hj:j > i
 ·rw [if_pos hj,if_pos hj];exact ⟨_,rfl⟩
 ·rw [if_neg hj,if_neg hj];exact ⟨_,rfl⟩
theorem zmq (hc:X.calm=true):yA X (.builtin "min") (fun xs H Q=> ∃i j,xs=[.int i,.int j]∧Q (.int (if j < i then j else i)) H):=by
 intro pins s σ H xs us Q I r h
 obtain ⟨i,j,rfl,q⟩:=h
 obtain ⟨u,w',rfl,⟨t,rfl⟩,⟨t',rfl⟩⟩:=znz r
 refine min_two_ints (I.ok.hd hc) fun h' tk k=>⟨_,H,I.kept k,?_,q⟩
 by_cases hj:j < i
 ·rw [if_pos hj,if_pos hj];exact ⟨_,rfl⟩
 ·rw [if_neg hj,if_neg hj];exact ⟨_,rfl⟩
def LenV (K:PySem.W.Frag) (x:V) (H:Hp) (n:Nat):Prop:=
 match x with
 | .str y=>y.length≤sizeLine∧n=y.length
 | .byt y=>y.size≤sizeLine∧n=y.size
 | .ref p=>(∃xs,SqL K H p xs∧n=xs.length)∨∃xs,SqT K H p xs∧n=xs.length
 | _=>False
theorem zoy:yA X (.builtin "len") (fun xs H Q=> ∃x n,xs=[x]∧LenV X.K x H n∧Q (.int n) H):=by
 intro pins s σ H xs us Q I r h
 obtain ⟨x,n,rfl,e,q⟩:=h
 obtain ⟨u,rfl,rx⟩:=zm1 r
 have hl:=zgk
 have hs:sizeLine=16777216:=sizeLine_eq
 cases x with
 | str y=>
  obtain ⟨t,rfl⟩:=rx
  obtain ⟨hy,e'⟩:y.length≤sizeLine∧n=y.length:=e
  subst e'
  exact len_str (by omega) ⟨.int _,H,I.tok _,⟨_,rfl⟩,q⟩
 | byt y=>
  obtain ⟨t,rfl⟩:=rx
  obtain ⟨hy,e'⟩:y.size≤sizeLine∧n=y.size:=e
  subst e'
  exact PySem.W.len_bytes (by omega) ⟨.int _,H,I.tok _,⟨_,rfl⟩,q⟩
 | ref p=>
  cases rx
  have e':(∃xs,SqL X.K H p xs∧n=xs.length)∨∃xs,SqT X.K H p xs∧n=xs.length:=e
  rcases e' with ⟨xs,hx,e'⟩ | ⟨xs,hx,e'⟩
  ·subst e'
   obtain ⟨its,r',pl,hz⟩:=I.list hx
   have hlen:=r'.length
   exact Calls.call_len_list pl.isList (by simp only [List.size_toArray];omega) ⟨.int xs.length,H,I.tok _,⟨_,by simp only [List.size_toArray];rw [hlen]⟩,q⟩
  ·subst e'
   obtain ⟨its,r',pl,hz⟩:=I.tuple hx
   have hlen:=r'.length
   exact len_tuple pl (by simp only [List.size_toArray];omega) ⟨.int xs.length,H,I.tok _,⟨_,by simp only [List.size_toArray];rw [hlen]⟩,q⟩
 | _=>exact (show False from e).elim
end
structure ObjM (h:Heap) (x dx C:Addr) (mA:Str→Option Value):Prop where
 obj:h.get? x=some (PySem.W.instObj C dx)
 ns:h.Ns1 dx mA
 ne:dx≠x
theorem zlb {h:Heap} {dx:Addr} {mA:Str→Option Value} (n:h.Ns1 dx mA): ∃od,h.get? dx=some od∧∀name,PySem.W.lookIn name od=some (mA name):=by
 obtain ⟨o,es,ep,ho,hd,hk,_,hm⟩:=n
 refine ⟨o,ho,fun name=>?_⟩
 have e:=hm name
 unfold nsFind findBy at e
 rw [←Array.find?_toList] at e
 unfold PySem.W.lookIn
 rw [hd]
 dsimp only
 split
 ·rename_i y q
  rw [q] at e
  exact congrArg some e
 ·rename_i q
  rw [q] at e
  have a:es.toList.any (·.refKey)=false:=by
   rw [List.any_eq_false]
   intro y hy
   obtain ⟨z,t,hkey⟩:=hk y (Array.mem_toList_iff.mp hy)
   simp [DictEntry.refKey,hkey]
  have a': ¬es.toList.any (·.refKey)=true:=by rw [a];exact Bool.false_ne_true
  rw [if_neg a']
  exact congrArg some e
theorem ObjM.look {h:Heap} {x dx C:Addr} {mA:Str→Option Value} (I:ObjM h x dx C mA): ∃od,PySem.W.InstAt h x (PySem.W.instObj C dx) C (some od)∧∀name,PySem.W.lookIn name od=some (mA name):=
 let ⟨od,ho,hl⟩:=zlb I.ns
 ⟨od,⟨I.obj,rfl,rfl,ho⟩,hl⟩
section
variable {prog:Program} {w:World} {A:Around} {E:Value→Shared→Prop} {s:Shared} {K:PySem.W.Frag} {x dx C f:Addr} {mA:Str→Option Value} {name:Str} {v:Value}
theorem zq5 {expr:Bool} {Q:Value→Shared→Prop} (X:K.In s.heap) (I:ObjM s.heap x dx C mA) (hg:PySem.W.plainGet K C name=true) (hh:PySem.W.hasDictIn K C=true)
  (ha:PySem.W.findIn K (.ref C) name=some none) (hv:mA name=some v) (hv':PySem.W.handedIn v=true) (h:Q v {s with toks:=s.toks+1}):
  wpAny (model prog w) A (getAttr (.ref x) name expr) Q E s:=by
 obtain ⟨od,J,hl⟩:=I.look
 exact PySem.W.get_value X J (PySem.W.plainGet_of hg).1 (PySem.W.findObj_own hh ha rfl (by rw [hl,hv])) hv' h
theorem zof {pl:Sem Bool} {Q:Value×List Value→Shared→Prop} (X:K.In s.heap) (I:ObjM s.heap x dx C mA) (hg:PySem.W.plainGet K C name=true)
  (hf:PySem.W.findIn K (.ref C) name=some (some (.ref f))) (ht:PySem.W.isFn K (.ref f)=true) (hv:mA name=none) (h:Q (.ref f,[.ref x]) s):
  wpAny (model prog w) A (getMethod (.ref x) name pl) Q E s:=by
 obtain ⟨od,J,hl⟩:=I.look
 exact PySem.W.method_fn X J (PySem.W.plainGet_of hg).1 (PySem.W.plainGet_of hg).2 hf (beq_iff_eq.mp ht) (by show (PySem.W.lookIn name od).map (·.isSome)=some false;rw [hl,hv];rfl) h
theorem zro {ns:List Str} {Q:Unit→Shared→Prop} (X:K.In s.heap) (I:ObjM s.heap x dx C mA)
  (hs:PySem.W.findIn K (.ref C) "__setattr__" =some (some (.builtin "object.__setattr__"))) (hp:PySem.W.plainOver K C=true) (ht:PySem.W.takerIn K C name=some none) (hh:PySem.W.hasDictIn K C=true)
  (hw:PySem.Within mA ns) (hsz:ns.length≤sizeLine)
  (h: ∀h',ObjM h' x dx C (fun y=>if y=name then some v else mA y)→Heap.SameBut dx s.heap h'→Q () {s with heap:=h',toks:=s.toks+2}):
  wpAny (model prog w) A (setAttr (.ref x) name v) Q E s:=by
 obtain ⟨od,J,hl⟩:=I.look
 refine PySem.W.set_plain X J hs (PySem.W.osa_open (s:={s with toks:=s.toks+1}) (r:=none) X J hp ht fun b=>?_)
 obtain ⟨cd,hc,hd'⟩:=PySem.W.any_some hh
 have hx:s.heap.get? x=some ⟨.ref C,some dx,.plain,#[]⟩:=I.obj
 refine wpAny_bind (wpAny_pure (wpAny_bind (wpAny_bind (wpAny_loadPart hx (wpAny_bind (PySem.W.Looks.here (s:={s with toks:=s.toks+1}) (PySem.W.looks_clsIn X hc) ?_))))))
 rw [hd']
 refine wpAny_pure (a:=some dx) (wpAny_bind (wpAny_pure (wpAny_bind ?_)))
 refine wpAny_nsSet1 (s:={s with toks:=s.toks+1}) I.ns fun h' hn2 hs2=>?_
 obtain ⟨oD,esD,epD,hoD,hdD,hcD⟩:=hn2.count (PySem.Within.cons name v hw)
 refine wpAny_bind (wpAny_lookBehind hoD (by rw [hdD];exact pastItsLine_dict (Nat.le_trans hcD (by rw [List.length_cons];omega))) ?_)
 exact wpAny_pure (h _ ⟨(hs2.2 _ (Ne.symm I.ne)).trans I.obj,hn2,I.ne⟩ hs2)
theorem znt {R:Result→Shared→Prop} {vs:List Value} {kw:List (Str×Value)} (X:K.In s.heap) (hm:PySem.W.makesIn K C=true)
  (hi:PySem.W.findIn K (.ref C) "__init__" =some (some (.ref f))) (hf:PySem.W.typeIn K (.ref f)=some (.type "function"))
  (h:codeAny (model prog w) (A.under (.builtin "type.__call__" ⟨.ref C::vs,kw⟩)) (.call (.ref f) ⟨.ref (s.heap.objs.size+1)::vs,kw⟩) (PySem.W.InitBack (s.heap.objs.size+1) R)
   {s with heap:=(s.heap.push PySem.W.emptyDict).push (PySem.W.instObj C s.heap.objs.size)}):
  codeAny (model prog w) A (.call (.ref C) ⟨vs,kw⟩) R s:=by
 obtain ⟨hh,g,d,t,os⟩:=s
 exact PySem.W.make_core (PySem.W.makes_of X hm) (PySem.W.looks_findIn X hi) (fun self=>PySem.W.bind_fn X self hf) (.inl rfl) h
end
def putF (f:Str) (v:V):List (Str×V)→List (Str×V)
 | []=>[(f,v)]
 | (g,x)::r=>if g=f then (g,v)::r else (g,x)::putF f v r
theorem zfr (f g:Str) (v:V): ∀fs:List (Str×V),(putF f v fs).lookup g=if g=f then some v else fs.lookup g
 | []=>by
  show List.lookup g [(f,v)]=_
  by_cases h:g=f
  ·have hb:(g==f)=true:=beq_iff_eq.mpr h
   simp only [List.lookup,hb,if_pos h]
  ·have hb:(g==f)=false:=beq_eq_false_iff_ne.mpr h
   simp only [List.lookup,hb,if_neg h]
 | (k,x)::r=>by
  have ih:=zfr f g v r
  rw [show putF f v ((k,x)::r)=(if k=f then (k,v)::r else (k,x)::putF f v r) from rfl]
  by_cases hk:k=f
  ·rw [if_pos hk]
   by_cases h:g=k
   ·have hb:(g==k)=true:=beq_iff_eq.mpr h
    simp only [List.lookup,hb,if_pos (h.trans hk)]
   ·have hb:(g==k)=false:=beq_eq_false_iff_ne.mpr h
    simp only [List.lookup,hb,if_neg (fun e:g=f=>h (e.trans hk.symm))]
  ·rw [if_neg hk]
   by_cases h:g=k
   ·have hb:(g==k)=true:=beq_iff_eq.mpr h
    simp only [List.lookup,hb,if_neg (fun e:g=f=>hk (h.symm.trans e))]
   ·have hb:(g==k)=false:=beq_eq_false_iff_ne.mpr h
    simp only [List.lookup,hb]
    exact ih
theorem zf9 (f:Str) (v:V): ∀fs:List (Str×V),f∈(putF f v fs).map (·.1)∧∀g,g∈fs.map (·.1)→g∈(putF f v fs).map (·.1)
 | []=>⟨by simp [putF],fun g h=>by simp at h⟩
 | (k,x)::r=>by
  obtain ⟨i1,i2⟩:=zf9 f v r
  rw [show putF f v ((k,x)::r)=(if k=f then (k,v)::r else (k,x)::putF f v r) from rfl]
  by_cases hk:k=f
  ·rw [if_pos hk]
   subst hk
   exact ⟨by simp,fun g h=>by simpa using h⟩
  ·rw [if_neg hk]
   refine ⟨?_,fun g h=>?_⟩
   ·rw [List.map_cons]
    exact List.mem_cons_of_mem _ i1
   ·rw [List.map_cons] at h ⊢
    rcases List.mem_cons.mp h with e | e
    ·exact List.mem_cons.mpr (.inl e)
    ·exact List.mem_cons_of_mem _ (i2 g e)
theorem zf7 (f:Str) (v:V): ∀fs:List (Str×V),(putF f v fs).length≤fs.length+1
 | []=>by simp [putF]
 | (k,x)::r=>by
  have ih:=zf7 f v r
  rw [show putF f v ((k,x)::r)=(if k=f then (k,v)::r else (k,x)::putF f v r) from rfl]
  by_cases hk:k=f
  ·rw [if_pos hk,List.length_cons,List.length_cons];omega
  ·rw [if_neg hk,List.length_cons,List.length_cons];omega
theorem RelO.some_of {v:V} {o:Option Value} (r:RelO (some v) o): ∃u,o=some u∧RelV v u:=by
 cases o with
 | none=>exact (show False from r).elim
 | some u=>exact ⟨u,rfl,r⟩
theorem RelO.none_of {o:Option Value} (r:RelO none o):o=none:=by
 cases o with
 | none=>rfl
 | some u=>exact (show False from r).elim
theorem zmx {v:V} {u:Value} (r:RelV v u):PySem.W.handedIn u=true:=by
 cases v with
 | non=>cases (show u=Value.none from r);rfl
 | bl b=>cases (show u=Value.bool b from r);rfl
 | int i=>obtain ⟨t,e⟩:=(show ∃t,u=Value.int i t from r);cases e;rfl
 | str x=>obtain ⟨t,e⟩:=(show ∃t,u=Value.str x t from r);cases e;rfl
 | byt b=>obtain ⟨t,e⟩:=(show ∃t,u=Value.bytes b t from r);cases e;rfl
 | flt b=>obtain ⟨t,e⟩:=(show ∃t,u=Value.float b t from r);cases e;rfl
 | ref a=>cases (show u=Value.ref a from r);rfl
 | ty n=>cases (show u=Value.type n from r);rfl
section
variable {P:Program} {w:World} {H H':Hp} {h h':Heap} {a C dx:Addr} {fs fs':List (Str×V)}
theorem zg3 (hok:HOk P w H h) (e:H a=some (.ins C dx fs)): ∃mA,ObjM h a dx C mA∧(∀f,RelO (fs.lookup f) (mA f))∧PySem.Within mA (fs.map (·.1))∧fs.length≤1000∧H dx=some (.own a):=by
 obtain ⟨d,z,ne,ob,mA,n,r,q⟩:=(show ObjOk P w H h a (.ins C dx fs) from hok a _ e)
 exact ⟨mA,⟨ob,n,ne⟩,r,q,z,d⟩
end
structure Cls (K:PySem.W.Frag) (C:Addr):Prop where
 pg:PySem.W.plainGet K C Str.empty=true
 hd:PySem.W.hasDictIn K C=true
 po:PySem.W.plainOver K C=true
 sa:PySem.W.findIn K (.ref C) "__setattr__" =some (some (.builtin "object.__setattr__"))
theorem Cls.get {K:PySem.W.Frag} {C:Addr} (c:Cls K C) (f:Str):PySem.W.plainGet K C f=true:=c.pg
def NoAttr (K:PySem.W.Frag) (C:Addr) (f:Str):Prop:=PySem.W.findIn K (.ref C) f=some none
theorem NoAttr.taker {K:PySem.W.Frag} {C:Addr} {f:Str} (n:NoAttr K C f):PySem.W.takerIn K C f=some none:=by
 unfold PySem.W.takerIn
 rw [show PySem.W.findIn K (.ref C) f=some none from n]
 rfl
structure Meth (K:PySem.W.Frag) (C:Addr) (m:Str) (f:Addr):Prop where
 at_:PySem.W.findIn K (.ref C) m=some (some (.ref f))
 fn:PySem.W.isFn K (.ref f)=true
 kp:PySem.W.keepIn K (.ref f)=true
section
variable {X:Cx} {pins:List (Addr×Obj)} {σ:St} {H:Hp} {s:Shared} {a C dx:Addr} {fs:List (Str×V)} {f:Str} {v:V} {A:Around} {E:Value→Shared→Prop}
theorem zkq {b:Bool} {Q:Value→Shared→Prop} (I:Inv X pins σ H s) (e:H a=some (.ins C dx fs)) (c:Cls X.K C) (n:NoAttr X.K C f) (l:fs.lookup f=some v)
  (h: ∀u s',Inv X pins σ H s'→RelV v u→Q u s'):wpAny (model X.prog X.w) A (getAttr (.ref a) f b) Q E s:=by
 obtain ⟨mA,O,r,_,_,_⟩:=zg3 I.hok e
 obtain ⟨u,hu,ru⟩:=RelO.some_of (v:=v) (o:=mA f) (by rw [←l];exact r f)
 exact zq5 I.kIn O (c.get f) c.hd n hu (zmx ru) (h u _ (I.tok _) ru)
theorem zgg {m:Str} {g:Addr} {pl:Sem Bool} {Q:Value×List Value→Shared→Prop} (I:Inv X pins σ H s) (e:H a=some (.ins C dx fs)) (c:Cls X.K C) (k:Meth X.K C m g) (l:fs.lookup m=none)
  (h:Q (.ref g,[.ref a]) s):wpAny (model X.prog X.w) A (getMethod (.ref a) m pl) Q E s:=by
 obtain ⟨mA,O,r,_,_,_⟩:=zg3 I.hok e
 have hn:mA m=none:=RelO.none_of (by rw [←l];exact r m)
 exact zof I.kIn O (c.get m) k.at_ k.fn hn h
theorem zkz {y:V} {u:Value} {Q:Unit→Shared→Prop} (I:Inv X pins σ H s) (e:H a=some (.ins C dx fs)) (c:Cls X.K C) (n:NoAttr X.K C f) (hl:fs.length < 1000) (ry:RelV y u)
  (h: ∀s',Inv X pins σ (zg H a (.ins C dx (putF f y fs))) s'→Q () s'):wpAny (model X.prog X.w) A (setAttr (.ref a) f u) Q E s:=by
 obtain ⟨mA,O,r,wi,_,ho⟩:=zg3 I.hok e
 have hz:(fs.map (·.1)).length≤sizeLine:=by rw [List.length_map,sizeLine_eq];omega
 refine zro I.kIn O c.sa c.po n.taker c.hd wi hz fun h' O' sb=>h _ ?_
 have hd: ∃o,h'.get? dx=some o:=let ⟨o,_,_,e',_⟩:=O'.ns;⟨o,e'⟩
 refine I.write (x:=a) (e:=dx) (by rw [e];exact True.intro) (.inr ho) (fun b q hb z=>(sb.2 b hb).trans z) hd ?_
 refine ⟨by rw [zl O.ne];exact ho,?_,O.ne,O'.obj,_,O'.ns,fun g=>?_,fun g hg=>?_⟩
 ·have:=zf7 f y fs;omega
 ·show RelO ((putF f y fs).lookup g) (if g=f then some u else mA g)
  rw [zfr]
  by_cases q:g=f
  ·rw [if_pos q,if_pos q];exact ry
  ·rw [if_neg q,if_neg q];exact r g
 ·by_cases q:g=f
  ·rw [q];exact (zf9 f y fs).1
  ·refine (zf9 f y fs).2 g (wi g fun z=>hg ?_)
   show (if g=f then some u else mA g)=none
   rw [if_neg q];exact z
theorem Inv.made (I:Inv X pins σ H s):Inv X pins σ (zg (zg H s.heap.objs.size (.own (s.heap.objs.size+1))) (s.heap.objs.size+1) (.ins C s.heap.objs.size []))
  {s with heap:=(s.heap.push PySem.W.emptyDict).push (PySem.W.instObj C s.heap.objs.size)}:=by
 have e1:(s.heap.push PySem.W.emptyDict).get? s.heap.objs.size=some PySem.W.emptyDict:=Heap.get?_push_size s.heap rfl
 have e2:((s.heap.push PySem.W.emptyDict).push (PySem.W.instObj C s.heap.objs.size)).get? (s.heap.objs.size+1)=some (PySem.W.instObj C s.heap.objs.size):=by
  have:=Heap.get?_push_size (s.heap.push PySem.W.emptyDict) (o:=PySem.W.instObj C s.heap.objs.size) rfl
  rwa [Heap.size_push] at this
 have e3:(s.heap.push PySem.W.emptyDict).Ns s.heap.objs.size (fun _=>none):=⟨PySem.W.emptyDict,#[],_,e1,rfl,(fun e he=>absurd he (by simp)),fun _=>rfl⟩
 have I1:=I.laid (a:=s.heap.objs.size) (o:= .own (s.heap.objs.size+1)) (h':=s.heap.push PySem.W.emptyDict) (t':=s.toks) (fun b u q=>Heap.get?_push_of_some _ q) (Nat.le_refl _) ⟨_,e1⟩
 refine I1.laid (a:=s.heap.objs.size+1) (o:= .ins C s.heap.objs.size []) (t':=s.toks) (fun b u q=>Heap.get?_push_of_some _ q) (Nat.le_of_eq (Heap.size_push _ _)) ?_
 have ne:s.heap.objs.size≠s.heap.objs.size+1:=Nat.ne_of_lt (Nat.lt_succ_self _)
 refine ⟨by rw [zl ne,zI],Nat.zero_le _,ne,e2,fun _=>none,(Heap.Ns1.of_empty e3).at fun o q=>Heap.get?_push_of_some _ q,fun _=>True.intro,fun y hy=>absurd rfl hy⟩
theorem zrp {prog:Program} {w:World} {env:Env} {e:Expr} {f:Str} {pos:Pos} {s:Shared} {Q:Value→Shared→Prop} (hb:attributeBase e f env (eval e env)=eval e env)
  (h:wpAny (model prog w) A (eval e env) (fun o s₁=>wpAny (model prog w) A (getAttr o f true) Q E s₁) E s):wpAny (model prog w) A (eval (.Attribute e f pos) env) Q E s:=
 Attribute_any_ h (by rw [arm_eval_Attribute,hb])
end
def tFld (K:PySem.W.Frag) (ta:TE) (f:Str):TE:=fun σ H Q=>ta σ H fun x H1=> ∃a C dx fs v,x= .ref a∧H1 a=some (.ins C dx fs)∧Cls K C∧NoAttr K C f∧fs.lookup f=some v∧Q v H1
def sFld (K:PySem.W.Frag) (ta tv:TE) (f:Str):TS:=fun D σ H=>tv σ H fun y H1=>ta σ H1 fun x H2=> ∃a C dx fs,x= .ref a∧H2 a=some (.ins C dx fs)∧Cls K C∧NoAttr K C f∧fs.length < 1000∧
 D.nx σ (zg H2 a (.ins C dx (putF f y fs)))
section
variable {X:Cx} {o e value:Expr} {f:Str} {pos pos' tpos:Pos} {ta tv:TE}
theorem zr5 (he:PE X e ta) (hb:attributeBase e f X.env (eval e X.env)=eval e X.env):PE X (.Attribute e f pos) (tFld X.K ta f):=by
 intro pins s σ H Q I h
 refine zrp hb (zo (he pins s σ H _ I h) fun u s1 ⟨x,H1,I1,rx,a,C,dx,fs,v,ex,ea,c,n,l,q⟩=>?_)
 subst ex
 obtain rfl:u=Value.ref a:=rx
 exact zkq I1 ea c n l fun u' s2 I2 ru=>⟨v,H1,I2,ru,q⟩
theorem zr7 (ha:PE X o ta) (hv:PE X value tv) (hs:swapsWith value (some (.Attribute o f pos')) pos.line X.env=pure false):PS X (.Assign [.Attribute o f pos'] value pos) (sFld X.K ta tv f):=by
 intro pins s σ H D I h
 refine plainObj_wpAny_Assign_Attribute (zo (hv pins s σ H _ I h) fun u s1 ⟨y,H1,I1,ry,q⟩=>zo (ha pins s1 σ H1 _ I1 q) fun ov s2 ⟨x,H2,I2,rx,a,C,dx,fs,ex,ea,c,n,l,q2⟩=>?_) hs
 subst ex
 obtain rfl:ov=Value.ref a:=rx
 exact zkz I2 ea c n l ry fun s3 I3=>⟨σ,_,I3,q2⟩
end
section
variable {X:Cx} {pins:List (Addr×Obj)} {σ:St} {H:Hp} {s:Shared} {A:Around} {E:Value→Shared→Prop} {Q:Value→Shared→Prop} {c:Value} {b:Bool}
inductive TyOf (K:PySem.W.Frag) (H:Hp):V→Value→Prop where
 | non:TyOf K H .non (.type "NoneType")
 | bl (x:Bool):TyOf K H (.bl x) (.type "bool")
 | int (i:Int):TyOf K H (.int i) (.type "int")
 | str (x:Str):TyOf K H (.str x) (.type "str")
 | flt (x:UInt64):TyOf K H (.flt x) (.type "float")
 | lst {a:Addr} {xs:List V} (e:H a=some (.lst xs)):TyOf K H (.ref a) (.type "list")
 | frz {a:Addr} {o:Obj} {xs:List V} (e:H a=some (.frz o (.lst xs))):TyOf K H (.ref a) (.type "list")
 | tup {a:Addr} {xs:List V} (e:H a=some (.tup xs)):TyOf K H (.ref a) (.type "tuple")
 | dK {a:Addr} {kvs:List (yd×V)} (e:H a=some (.dK kvs)):TyOf K H (.ref a) (.type "dict")
 | dT {a:Addr} {kvs:List (MK×V)} (e:H a=some (.dT kvs)):TyOf K H (.ref a) (.type "dict")
 | ins {a C dx:Addr} {fs:List (Str×V)} (e:H a=some (.ins C dx fs)) (cl:Cls K C) (ha:PySem.W.findIn K (.ref C) "__class__" =some (some (.builtin "object.__class__")))
  (hn:PySem.W.specialIn K (.builtin "object.__class__") "__get__" =some (some (.builtin "getset_descriptor.__get__"))) (htk:PySem.W.takesIn K (.builtin "object.__class__")=some true)
  (hm:PySem.W.mroIn K C (.type "object")=some true):TyOf K H (.ref a) (.ref C)
theorem zlh {x:V} {u t:Value} (I:Inv X pins σ H s) (rx:RelV x u) (ty:TyOf X.K H x t) (e:PySem.W.kitOne X.K t c=some b) (h: ∀tk,Q (.bool b) {s with toks:=tk}):
  wpAny (model X.prog X.w) A (call (.builtin "isinstance") [u,c]) Q E s:=by
 cases ty with
 | non=>cases (show u=Value.none from rx);exact PySem.W.kia_one PySem.W.kitx_none I.kIn True.intro e (fun z=>nomatch z) h
 | bl y=>cases (show u=Value.bool y from rx);exact PySem.W.kia_one PySem.W.kitx_bool I.kIn True.intro e (fun z=>nomatch z) h
 | int i=>obtain ⟨t,q⟩:=(show ∃t,u=Value.int i t from rx);cases q;exact PySem.W.kia_one PySem.W.kitx_int I.kIn True.intro e (fun z=>nomatch z) h
 | str y=>obtain ⟨t,q⟩:=(show ∃t,u=Value.str y t from rx);cases q;exact PySem.W.kia_one PySem.W.kitx_str I.kIn True.intro e (fun z=>nomatch z) h
 | flt y=>obtain ⟨t,q⟩:=(show ∃t,u=Value.float y t from rx);cases q;exact PySem.W.kia_one PySem.W.kitx_float I.kIn True.intro e (fun z=>nomatch z) h
 | @lst a xs ea=>
  cases (show u=Value.ref a from rx)
  obtain ⟨_,_,n,_,h1⟩:=(show ObjOk X.prog X.w H s.heap a (.lst xs) from I.hok a _ ea)
  exact PySem.W.kia_one PySem.W.kitx_list I.kIn ⟨_,h1,rfl⟩ e (fun z=>nomatch z) h
 | @frz a ob xs ea=>
  cases (show u=Value.ref a from rx)
  obtain ⟨_,_,_,n,_,h1⟩:=(show ObjOk X.prog X.w H s.heap a (.frz ob (.lst xs)) from I.hok a _ ea)
  exact PySem.W.kia_one PySem.W.kitx_list I.kIn ⟨_,h1,rfl⟩ e (fun z=>nomatch z) h
 | @tup a xs ea=>
  cases (show u=Value.ref a from rx)
  obtain ⟨_,_,_,p⟩:=(show ObjOk X.prog X.w H s.heap a (.tup xs) from I.hok a _ ea)
  obtain ⟨o,h1,h2,_⟩:=p
  exact PySem.W.kia_one PySem.W.kitx_tuple I.kIn ⟨o,h1,h2⟩ e (fun z=>nomatch z) h
 | @dK a kvs ea=>
  cases (show u=Value.ref a from rx)
  obtain ⟨_,_,vs,_,p⟩:=(show ObjOk X.prog X.w H s.heap a (.dK kvs) from I.hok a _ ea)
  obtain ⟨o,es,ep,h1,h2,_⟩:=p
  exact PySem.W.kia_one PySem.W.kitx_dict I.kIn ⟨o,h1,h2.1⟩ e (fun z=>nomatch z) h
 | @dT a kvs ea=>
  cases (show u=Value.ref a from rx)
  obtain ⟨_,_,xs,_,o,es,ep,h1,h2,_⟩:=(show ObjOk X.prog X.w H s.heap a (.dT kvs) from I.hok a _ ea)
  exact PySem.W.kia_one PySem.W.kitx_dict I.kIn ⟨o,h1,h2.1⟩ e (fun z=>nomatch z) h
 | @ins a C dx fs ea cl ha hn htk hm=>
  cases (show u=Value.ref a from rx)
  obtain ⟨mA,O,_⟩:=zg3 I.hok ea
  obtain ⟨od,J,_⟩:=O.look
  exact PySem.W.kia_one (PySem.W.kitx_own (cl.get _) cl.hd ha hn htk hm) I.kIn J e (fun z=>nomatch z) h
end
structure Room (k:Nat) (A:Around):Prop where
 hd:A.handled=none
 dp:A.depth+3*k+5 < recursionLimit
 un:A.units+16*k+200 < cLine
theorem Room.mono {j k:Nat} {A:Around} (r:Room k A) (h:j≤k):Room j A:=⟨r.hd,by have:=r.dp;omega,by have:=r.un;omega⟩
theorem Room.deeper {k:Nat} {A:Around} (r:Room (k+1) A) (env:Env):Room k (A.deeper env):=
 ⟨r.hd,by have:=r.dp;show A.depth+1+3*k+5 < _;omega,by have:=r.un;show A.units+3+16*k+200 < _;omega⟩
theorem zk4 {A:Around} {C:Addr} {us:List Value} {kw:List (Str×Value)}:(A.under (.builtin "type.__call__" ⟨.ref C::us,kw⟩)).depth=A.depth+1:=by
 first | rfl | simp [Around.under,Code.weight,Code.isCreation,Code.isGuard,Code.isCaller,Code.frames,Code.isFrame,guardIds]
theorem zkx {A:Around} {C:Addr} {us:List Value} {kw:List (Str×Value)}:(A.under (.builtin "type.__call__" ⟨.ref C::us,kw⟩)).units=A.units+1:=by
 first | rfl | simp [Around.under,Code.cUnits,Code.frames,Code.isFrame]
theorem Room.make {k:Nat} {A:Around} (r:Room (k+1) A) (C:Addr) (us:List Value) (kw:List (Str×Value)):Room k (A.under (.builtin "type.__call__" ⟨.ref C::us,kw⟩)):=
 ⟨r.hd,by have:=r.dp;rw [zk4];omega,by have:=r.un;rw [zkx];omega⟩
theorem Room.depth {k:Nat} {A:Around} (r:Room k A):A.depth < recursionLimit:=by have:=r.dp;omega
theorem Room.units {k:Nat} {A:Around} (r:Room k A):A.units+64 < cLine:=by have:=r.un;omega
def tNil:TA:=fun _ H Q=>Q [] H
def zvc (ta:TE) (tr:TA):TA:=fun σ H Q=>ta σ H fun x H1=>tr σ H1 fun xs H2=>Q (x::xs) H2
section
variable {X:Cx} {e:Expr} {es:List Expr} {te:TE} {t:TA} {pos:Pos}
theorem zrz:PA X [] tNil:=fun _ _ _ _ H Q I h=>Calls.spliced_nil ⟨[],H,I,.nil,h⟩
theorem zlz (ha:PE X e te) (hr:PA X es t) (hs:starEach (e::es) X.env=(false,eval e X.env)::starEach es X.env:=by rfl):PA X (e::es) (zvc te t):=by
 intro pos pins s σ H Q I h
 rw [hs]
 show wpAny _ _ (spliced ((false,eval e X.env)::backTo pos (starEach es X.env))) _ _ s
 refine Calls.spliced_cons (zo (ha pins s σ H _ I h) fun u s1 ⟨x,H1,I1,r1,q1⟩=>?_)
 exact zo (hr pos pins s1 σ H1 _ I1 q1) fun us s2 ⟨xs,H2,I2,r2,q2⟩=>⟨x::xs,H2,I2,.cons r1 r2,q2⟩
def tTup (t:TA):TE:=fun σ H Q=>t σ H fun xs H1=>xs.length≤sizeLine∧∀p,H1 p=none→Q (.ref p) (zg H1 p (.tup xs))
def tLst (t:TA):TE:=fun σ H Q=>t σ H fun xs H1=>xs.length≤sizeLine∧∀p,H1 p=none→Q (.ref p) (zg H1 p (.lst xs))
theorem zsg {x1} (h:PA X es t):PE X (.Tuple es x1 pos) (tTup t):=by
 intro pins s σ H Q I hq
 refine wpAny_Tuple_spliced (zo (h pos pins s σ H _ I hq) fun us s1 ⟨xs,H1,I1,r,z,q⟩=>⟨by rw [←r.length];exact z,?_⟩)
 have hf:H1 s1.heap.objs.size=none:=I1.hok.fresh (Nat.le_refl _)
 refine ⟨.ref s1.heap.objs.size,zg H1 s1.heap.objs.size (.tup xs),I1.laid (t':=s1.toks) (fun b u e=>Heap.get?_push_of_some _ e) (Nat.le_refl _) ?_,rfl,q _ hf⟩
 exact ⟨z,us,r,⟨_,Heap.get?_push_size _ rfl,rfl,_,rfl⟩⟩
theorem ztz (h:PA X es t):PE X (.List es pos) (tLst t):=by
 intro pins s σ H Q I hq
 refine wpAny_List_spliced (zo (h pos pins s σ H _ I hq) fun us s1 ⟨xs,H1,I1,r,z,q⟩=>⟨by rw [←r.length];exact z,?_⟩)
 have hf:H1 s1.heap.objs.size=none:=I1.hok.fresh (Nat.le_refl _)
 refine ⟨.ref s1.heap.objs.size,zg H1 s1.heap.objs.size (.lst xs),I1.laid (t':=s1.toks) (fun b u e=>Heap.get?_push_of_some _ e) (Nat.le_refl _) ?_,rfl,q _ hf⟩
 exact ⟨z,us,0,r,Heap.get?_push_size _ rfl⟩
end
abbrev Sp:=List V→Hp→VK→XK→Prop
abbrev yu:=List Env→Hp→Shared→XK→Value→Shared→Prop
structure Env0 (P:Program) (w:World) (K:PySem.W.Frag) (mg:Str→Option Value) (base:Heap) (A:Around) (outer:List Env) (s:Shared) (H:Hp):Prop where
 frames:A.frames=some outer
 mod:Mod K mg base
 bs: ∀b o,base.get? b=some o→s.heap.get? b=some o∧H b=none
 bsz:base.objs.size≤s.heap.objs.size
 funs:s.heap.FunFrames base outer
 frf: ∀b∈zO outer,H b=none
 hok:HOk P w H s.heap
 bare:AllBare s.gens
def CE (outer:List Env) (P:Program) (w:World) (H:Hp) (s:Shared) (Q:VK) (u:Value) (s':Shared):Prop:=
 ∃v H',s'.os=s.os∧AllBare s'.gens∧Un (zO outer) [] H H' s.heap s'.heap∧HOk P w H' s'.heap∧RelV v u∧Q v H'
def CR (CX:yu) (outer:List Env) (P:Program) (w:World) (H:Hp) (s:Shared) (Q:VK) (E:XK) (r:Result) (s':Shared):Prop:=
 match r with
 | .ok (.ret u)=>CE outer P w H s Q u s'
 | .ok _=>False
 | .error e=>CX outer H s E e s'
structure FnOk (P:Program) (w:World) (K:PySem.W.Frag) (mg:Str→Option Value) (base:Heap) (CX:yu) (k:Nat) (f:Addr) (fd:FuncData) (ps:List Str) (sp:Sp):Prop where
 len: ∀vs H Q E,sp vs H Q E→vs.length=ps.length
 run: ∀(A:Around) (outer:List Env) (s:Shared) (H:Hp) (args:Args) (us:List Value) (vs:List V) (Q:VK) (E:XK),Room k A→Env0 P w K mg base A outer s H→BindsTo s fd args (ps.zip us)→Vals vs us→sp vs H Q E→
  codeAny (model P w) A (.call (.ref f) args) (CR CX outer P w H s Q E) s
theorem FnOk.imp {P:Program} {w:World} {K:PySem.W.Frag} {mg:Str→Option Value} {base:Heap} {CX:yu} {k:Nat} {f:Addr} {fd:FuncData} {ps:List Str} {sp sp':Sp} (F:FnOk P w K mg base CX k f fd ps sp)
  (h: ∀vs H Q E,sp' vs H Q E→sp vs H Q E):FnOk P w K mg base CX k f fd ps sp':=
 ⟨fun vs H Q E q=>F.len vs H Q E (h _ _ _ _ q),fun A outer s H args us vs Q E hr he hb hv hs=>F.run A outer s H args us vs Q E hr he hb hv (h _ _ _ _ hs)⟩
theorem Env0.make {P:Program} {w:World} {K:PySem.W.Frag} {mg:Str→Option Value} {base:Heap} {A:Around} {outer:List Env} {s:Shared} {H:Hp} (e:Env0 P w K mg base A outer s H) (C:Addr) (us:List Value) (kw:List (Str×Value)):
 Env0 P w K mg base (A.under (.builtin "type.__call__" ⟨.ref C::us,kw⟩)) outer s H:=⟨by first | exact e.frames | (simpa [Around.under,Code.envs,Code.isFrame,pushEnvs] using e.frames),e.mod,e.bs,e.bsz,e.funs,e.frf,e.hok,e.bare⟩
section
variable {X:Cx} {pins:List (Addr×Obj)} {σ:St} {H:Hp} {s s':Shared}
theorem Inv.env0 (I:Inv X pins σ H s):Env0 X.prog X.w X.K X.mg X.base X.A X.stack s H:=
 ⟨I.ok.frames,I.ok.mod,I.bs,Nat.le_trans I.ok.bsz I.sz,I.stack,I.stkFree,I.hok,I.bare⟩
theorem Inv.after {Q:VK} {u:Value} (I:Inv X pins σ H s) (h:CE X.stack X.prog X.w H s Q u s'):EP X pins σ Q u s':=by
 obtain ⟨v,H',os,bare,un,hok,r,q⟩:=h
 obtain ⟨hh,g,d,t,os'⟩:=s'
 obtain rfl:os'=s.os:=os
 exact ⟨v,H',I.call (h':=hh) (g':=g) (d':=d) (t':=t) (ch:=[]) un hok bare (fun b z=>absurd z (by simp)),r,q⟩
end
def zns (sp:Sp) (dvs:List V) (E:XK) (t:TA):TE:=fun σ H Q=>t σ H fun vs H1=>sp (vs++dvs) H1 Q E
def zq7 (C:Addr) (m:Str) (sp:Sp) (dvs:List V) (E:XK) (ta:TE) (t:TA):TE:=fun σ H Q=>ta σ H fun x H1=> ∃a dx fs,x= .ref a∧H1 a=some (.ins C dx fs)∧fs.lookup m=none∧
 t σ H1 fun vs H2=>sp (x::(vs++dvs)) H2 Q E
def ztf (C:Addr) (sp:Sp) (dvs:List V) (E:XK) (t:TA):TE:=fun σ H Q=>t σ H fun vs H1=> ∀x dx,H1 x=none→H1 dx=none→dx≠x→
 sp (.ref x::(vs++dvs)) (zg (zg H1 dx (.own x)) x (.ins C dx [])) (fun v H2=>v= .non∧Q (.ref x) H2) E
def Binds (K:PySem.W.Frag) (fd:FuncData) (ps:List Str) (ds:List Value):Prop:=
 ∀(s:Shared) (us:List Value),K.In s.heap→(us++ds).length=ps.length→BindsTo s fd ⟨us,[]⟩ (ps.zip (us++ds))
theorem Binds.all {K:PySem.W.Frag} {fd:FuncData} {ps:List Str} (h: ∀us:List Value,us.length=ps.length→bindArgs fd ⟨us,[]⟩=pure (ps.zip us)):Binds K fd ps []:=fun s us _ hl=>by
 rw [List.append_nil] at hl ⊢
 exact .of_eq (h us hl)
def yO (CX:yu) (X:Cx) (E:XK):Prop:=∀(pins:List (Addr×Obj)) (σ:St) (H:Hp) (s:Shared) (e:Value) (s':Shared),Inv X pins σ H s→CX X.stack H s E e s'→X.xe e s'
section
variable {X:Cx} {CX:yu} {k:Nat} {f C:Addr} {fd:FuncData} {ps:List Str} {sp:Sp} {dvs:List V} {ds:List Value} {E:XK} {x m:Str} {p pos apos:Pos} {e o:Expr} {es:List Expr} {ta:TE} {t:TA}
theorem zlm {pins:List (Addr×Obj)} {σ:St} {H:Hp} {s:Shared} {Q:VK} {us:List Value} {vs:List V} (F:FnOk X.prog X.w X.K X.mg X.base CX k f fd ps sp) (hr:Room k X.A) (hb:Binds X.K fd ps ds) (hd:Vals dvs ds) (hx:yO CX X E)
  (I:Inv X pins σ H s) (r:Vals vs us) (h:sp (vs++dvs) H Q E):wpAny (model X.prog X.w) X.A (call (.ref f) us) (EP X pins σ Q) X.xe s:=by
 have r2:Vals (vs++dvs) (us++ds):=r.append hd
 have hl:(us++ds).length=ps.length:=by rw [←r2.length];exact F.len _ _ _ _ h
 refine wpAny_call (codeAny_mono (F.run X.A X.stack s H ⟨us,[]⟩ (us++ds) (vs++dvs) Q E hr I.env0 (hb s us I.kIn hl) r2 h) fun r s' hq=>?_)
 cases r with
 | error e=>exact hx pins σ H s e s' I hq
 | ok fl=>
  cases fl with
  | ret u=>exact I.after hq
  | next=>exact False.elim hq
  | brk=>exact False.elim hq
  | cont=>exact False.elim hq
theorem zm8 (F:FnOk X.prog X.w X.K X.mg X.base CX k f fd ps sp) (hr:Room k X.A) (hg:Gl X x) (hm:X.mg x=some (.ref f)) (hk:PySem.W.keepIn X.K (.ref f)=true) (hb:Binds X.K fd ps ds) (hd:Vals dvs ds) (hx:yO CX X E)
  (ha:PA X (e::es) t) (hdb:(x==("__debug__" :Str))=false:=by decide) (he:starEach (e::es) X.env=(false,eval e X.env)::starEach es X.env:=by rfl) (hpl:(backTo pos (starEach es X.env)).any (·.1)=false:=by rfl):
  PE X (.Call (.Name x p) (e::es) [] pos) (zns sp dvs E t):=by
 intro pins s σ H Q I h
 refine wpAny_Call_Name_kw (zer I hg hm ?_ hdb)
 refine PySem.W.callWith_K (h₀:=X.base) I.ok.mod.kin hk (zo (ha pos pins s σ H _ I h) fun us s1 ⟨vs,H1,I1,r,q⟩=>⟨I1.kIn,?_⟩) he hpl
 exact zlm F hr hb hd hx I1 r q
theorem zqk {pl:Sem Bool} (he:PE X o ta) (c:Cls X.K C) (hm:Meth X.K C m f) (F:FnOk X.prog X.w X.K X.mg X.base CX k f fd ps sp) (hr:Room k X.A) (hb:Binds X.K fd ps ds) (hd:Vals dvs ds) (hx:yO CX X E) (ha:PA X (e::es) t)
  (hst:starEach (e::es) X.env=(false,eval e X.env)::starEach es X.env:=by rfl) (hpl:(backTo pos (starEach es X.env)).any (·.1)=false:=by rfl)
  (ht:eval (.Call (.Attribute o m apos) (e::es) [] pos) X.env=(do
   let ov ←eval o X.env
   standAt apos.atName
   let (f,first) ←holding [ov] (getMethod ov m pl)
   callWith pos f first (backTo pos (starEach (e::es) X.env)) (backToKw pos (keywordEach [] X.env))):=by rfl):
  PE X (.Call (.Attribute o m apos) (e::es) [] pos) (zq7 C m sp dvs E ta t):=by
 intro pins s σ H Q I h
 refine PySem.W.methodCall_KW (pl:=pl) (zo (he pins s σ H _ I h) fun u s1 ⟨x,H1,I1,rx,a,dx,fs,ex,ea,l,q⟩=>?_) ht
 subst ex
 obtain rfl:u=Value.ref a:=rx
 refine zgg I1 ea c hm l ?_
 refine PySem.W.callWith_K (first:=[.ref a]) (h₀:=X.base) I.ok.mod.kin hm.kp (zo (ha pos pins s1 σ H1 _ I1 q) fun us s2 ⟨vs,H2,I2,r,q2⟩=>⟨I2.kIn,?_⟩) hst hpl
 exact zlm (us:= .ref a::us) (vs:= .ref a::vs) F hr hb hd hx I2 (.cons rfl r) q2
theorem zot {pl:Sem Bool} (he:PE X o ta) (c:Cls X.K C) (hm:Meth X.K C m f) (F:FnOk X.prog X.w X.K X.mg X.base CX k f fd ps sp) (hr:Room k X.A) (hb:Binds X.K fd ps ds) (hd:Vals dvs ds) (hx:yO CX X E)
  (ht:eval (.Call (.Attribute o m apos) [] [] pos) X.env=(do
   let ov ←eval o X.env
   standAt apos.atName
   let (f,first) ←holding [ov] (getMethod ov m pl)
   callWith pos f first (backTo pos (starEach [] X.env)) (backToKw pos (keywordEach [] X.env))):=by rfl):
  PE X (.Call (.Attribute o m apos) [] [] pos) (zq7 C m sp dvs E ta tNil):=by
 intro pins s σ H Q I h
 refine PySem.W.methodCall_KW (pl:=pl) (zo (he pins s σ H _ I h) fun u s1 ⟨x,H1,I1,rx,a,dx,fs,ex,ea,l,q⟩=>?_) ht
 subst ex
 obtain rfl:u=Value.ref a:=rx
 refine zgg I1 ea c hm l ?_
 exact PySem.W.callWith_K0 (first:=[.ref a]) I1.kIn hm.kp (zlm (us:=[.ref a]) (vs:=[.ref a]) F hr hb hd hx I1 (.cons rfl .nil) q)
structure Mk (K:PySem.W.Frag) (C f:Addr):Prop where
 makes:PySem.W.makesIn K C=true
 init:PySem.W.findIn K (.ref C) "__init__" =some (some (.ref f))
 fn:PySem.W.isFn K (.ref f)=true
 kp:PySem.W.keepIn K (.ref C)=true
theorem zoz {pins:List (Addr×Obj)} {σ:St} {H:Hp} {s:Shared} {Q:VK} {us:List Value} {vs:List V} (M:Mk X.K C f) (F:FnOk X.prog X.w X.K X.mg X.base CX k f fd ps sp) (hr:Room (k+1) X.A) (hb:Binds X.K fd ps ds) (hd:Vals dvs ds)
  (hx:yO CX X E) (I:Inv X pins σ H s) (r:Vals vs us)
  (h: ∀x dx,H x=none→H dx=none→dx≠x→sp (.ref x::(vs++dvs)) (zg (zg H dx (.own x)) x (.ins C dx [])) (fun v H2=>v= .non∧Q (.ref x) H2) E):
  wpAny (model X.prog X.w) X.A (call (.ref C) us) (EP X pins σ Q) X.xe s:=by
 have hq:=h (s.heap.objs.size+1) s.heap.objs.size (I.hok.fresh (Nat.le_succ _)) (I.hok.fresh (Nat.le_refl _)) (Nat.ne_of_lt (Nat.lt_succ_self _))
 have I2:=Inv.made (C:=C) I
 have r2:Vals (V.ref (s.heap.objs.size+1)::(vs++dvs)) (Value.ref (s.heap.objs.size+1)::(us++ds)):= .cons rfl (r.append hd)
 have hl:(Value.ref (s.heap.objs.size+1)::us++ds).length=ps.length:=by
  have e:=r2.length
  rw [F.len _ _ _ _ hq] at e
  exact e.symm
 refine wpAny_call (znt (f:=f) I.kIn M.makes M.init (beq_iff_eq.mp M.fn) (codeAny_mono (F.run _ X.stack _ _ ⟨Value.ref (s.heap.objs.size+1)::us,[]⟩ (Value.ref (s.heap.objs.size+1)::(us++ds)) _ _ E (hr.make C us [])
  (I2.env0.make C us []) (hb _ (Value.ref (s.heap.objs.size+1)::us) I2.kIn hl) r2 hq) fun r s' hq'=>?_))
 cases r with
 | error e=>exact hx pins σ _ _ e s' I2 hq'
 | ok fl=>
  cases fl with
  | ret u=>
   obtain ⟨v,H',I3,rv,ev,q3⟩:=I2.after hq'
   subst ev
   exact ⟨rv,⟨V.ref (s.heap.objs.size+1),H',I3,rfl,q3⟩⟩
  | next=>exact False.elim hq'
  | brk=>exact False.elim hq'
  | cont=>exact False.elim hq'
theorem zqi (M:Mk X.K C f) (F:FnOk X.prog X.w X.K X.mg X.base CX k f fd ps sp) (hr:Room (k+1) X.A) (hg:Gl X x) (hm:X.mg x=some (.ref C)) (hb:Binds X.K fd ps ds) (hd:Vals dvs ds) (hx:yO CX X E)
  (ha:PA X (e::es) t) (hdb:(x==("__debug__" :Str))=false:=by decide) (he:starEach (e::es) X.env=(false,eval e X.env)::starEach es X.env:=by rfl) (hpl:(backTo pos (starEach es X.env)).any (·.1)=false:=by rfl):
  PE X (.Call (.Name x p) (e::es) [] pos) (ztf C sp dvs E t):=by
 intro pins s σ H Q I h
 refine wpAny_Call_Name_kw (zer I hg hm ?_ hdb)
 refine PySem.W.callWith_K (h₀:=X.base) I.ok.mod.kin M.kp (zo (ha pos pins s σ H _ I h) fun us s1 ⟨vs,H1,I1,r,q⟩=>⟨I1.kIn,?_⟩) he hpl
 exact zoz M F hr hb hd hx I1 r q
end
structure FnScope (N P:List Str) (sc:Scope):Prop where
 kind:sc.kind= .function
 co:sc.isCoroutine=false
 gen:sc.isGenerator=false
 nd:N.Nodup
 pre:N.take P.length=P
 par: ∀x∈P,sc.names.lookup x=some .local∨sc.names.lookup x=some .cell
 nofree: ∀y∈sc.names,y.2≠ .free
theorem zia {kindOf:Str→Option NameKind} {x:Str}: ∀{binds:List (Str×Value)} {m:Str→Option Value},(∀v,(x,v)∉binds)→bindL kindOf binds m x=m x
 | [],_,_=>rfl
 | (n,v)::r,m,h=>by
  unfold bindL
  rw [zia fun w hw=>h w (List.mem_cons_of_mem _ hw)]
  split
  ·have:x≠n:=by rintro rfl;exact h v List.mem_cons_self
   simp [this]
  ·rfl
theorem zh1 {kindOf:Str→Option NameKind} {x:Str}: ∀{binds:List (Str×Value)} {m:Str→Option Value},(∀v,(x,v)∉binds)→bindC kindOf binds m x=m x
 | [],_,_=>rfl
 | (n,v)::r,m,h=>by
  unfold bindC
  rw [zh1 fun w hw=>h w (List.mem_cons_of_mem _ hw)]
  split
  ·rfl
  ·have:x≠n:=by rintro rfl;exact h v List.mem_cons_self
   simp [this]
theorem zhw {kindOf:Str→Option NameKind} {x:Str} {v:Value}: ∀{P:List Str} {vs:List Value} {i:Nat} {m:Str→Option Value},P.Nodup→P[i]? =some x→vs[i]? =some v→kindOf x=some .local→
  bindL kindOf (P.zip vs) m x=some v
 | [],_,_,_,_,h,_,_=>by simp at h
 | _::_,[],_,_,_,_,h,_=>by simp at h
 | p::P,w::vs,0,m,nd,h1,h2,hk=>by
  simp at h1 h2;subst h1;subst h2
  show bindL kindOf ((p,w)::P.zip vs) m p=_
  unfold bindL
  rw [zia fun v hv=>(List.nodup_cons.mp nd).1 (List.of_mem_zip hv).1,if_pos hk]
  simp
 | p::P,w::vs,i+1,m,nd,h1,h2,hk=>by
  show bindL kindOf ((p,w)::P.zip vs) m x=_
  unfold bindL
  exact zhw (i:=i) (List.nodup_cons.mp nd).2 (by simpa using h1) (by simpa using h2) hk
theorem zhv {kindOf:Str→Option NameKind} {x:Str} {v:Value}: ∀{P:List Str} {vs:List Value} {i:Nat} {m:Str→Option Value},P.Nodup→P[i]? =some x→vs[i]? =some v→kindOf x≠some .local→
  bindC kindOf (P.zip vs) m x=some v
 | [],_,_,_,_,h,_,_=>by simp at h
 | _::_,[],_,_,_,_,h,_=>by simp at h
 | p::P,w::vs,0,m,nd,h1,h2,hk=>by
  simp at h1 h2;subst h1;subst h2
  show bindC kindOf ((p,w)::P.zip vs) m p=_
  unfold bindC
  rw [zh1 fun v hv=>(List.nodup_cons.mp nd).1 (List.of_mem_zip hv).1,if_neg hk]
  simp
 | p::P,w::vs,i+1,m,nd,h1,h2,hk=>by
  show bindC kindOf ((p,w)::P.zip vs) m x=_
  unfold bindC
  exact zhv (i:=i) (List.nodup_cons.mp nd).2 (by simpa using h1) (by simpa using h2) hk
def start (N:List Str) (vs:List V):St:=vs.map some++List.replicate (N.length - vs.length) none
def zU (CX:yu) (P:Program) (w:World) (K:PySem.W.Frag) (mg:Str→Option Value) (base:Heap) (N:List Str) (qual:Str) (scope:Scope) (f:Addr) (cd:Value) (A:Around) (outer:List Env) (s:Shared) (H:Hp) (E:XK):Cx where
 prog:=P
 w:=w
 K:=K
 mg:=mg
 base:=base
 A:=A.deeper (envOfC qual scope s.heap.objs.size f cd)
 N:=N
 s₀:=s
 H₀:=H
 env:=envOfC qual scope s.heap.objs.size f cd
 outer:=outer
 stack:=envOfC qual scope s.heap.objs.size f cd::outer
 ex:=[]
 calm:=true
 fn:=fun _=>true
 pn:=[]
 xe:=fun e s'=>wpAny (model P w) (A.deeper (envOfC qual scope s.heap.objs.size f cd)) (leaving (envOfC qual scope s.heap.objs.size f cd) e) (fun _ s''=>CX outer H s E e s'') (fun e' s''=>CX outer H s E e' s'') s'
theorem zjs {sc:Scope} {n:Nat} {x:Str} (h:sc.names.lookup x=some .cell): ∃c,(cellsFrom n sc.names []).lookup x=some c:=by
 have q:=PySem.W.cellsFrom_some sc.names n [] (.inl h)
 exact Option.isSome_iff_exists.mp q
theorem zhm {CX:yu} {P:Program} {w:World} {K:PySem.W.Frag} {mg:Str→Option Value} {base:Heap} {N ps:List Str} {qual:Str} {scope:Scope} {f:Addr} {cd:Value} {A:Around} {outer:List Env} {s s1:Shared} {H:Hp} {E:XK} {us:List Value} {vs:List V}
  (S:FnScope N ps scope) (hd:A.handled=none) (e0:Env0 P w K mg base A outer s H) (hl:vs.length=ps.length) (r:Vals vs us)
  (x:InCallC s s.heap.objs.size (bindL (envOfC qual scope s.heap.objs.size f cd).kindOf (ps.zip us) fun _=>none) (cellsFrom (s.heap.objs.size+1) scope.names []) (bindC (envOfC qual scope s.heap.objs.size f cd).kindOf (ps.zip us) fun _=>none) s1):
  Inv (zU CX P w K mg base N qual scope f cd A outer s H E) [] (start N vs) H s1:=by
 have hpl:ps.length≤N.length:=by have:=congrArg List.length S.pre;rw [List.length_take] at this;omega
 obtain ⟨h1,tk,rfl,hk⟩:=x.done
 have noA: ∀b:Addr,b∉(zU CX P w K mg base N qual scope f cd A outer s H E).ex:=fun b z=>absurd (show b∈([]:List Addr) from z) (by simp)
 refine ⟨⟨e0.mod,S.kind,rfl,rfl,Nat.le_refl _,fun y z c h1 h2=>?_,fun y hy=>?_,fun y c _ h=>?_,fun _=>hd,Around.frames_deeper e0.frames,.inr ⟨rfl,rfl⟩,fun b z=>absurd z (noA b),e0.bs,e0.bsz,fun b _ _=>noA b,fun b z=>absurd z (noA b),e0.funs,e0.frf⟩,
  rfl,e0.bare,Un.kept hk,⟨_,x.toInCall.ns,fun i y v h1 h2 h3=>?_⟩,fun y c h=>⟨_,x.cell y c h⟩,e0.hok.fresh (Nat.le_refl _),fun y c h=>?_,fun p hp=>absurd (show p∈([]:List (Addr×Obj)) from hp) (by simp),e0.hok.kept hk,?_⟩
 ·exact name_of_addr x.apart (PySem.mem_of_lookup h1) (PySem.mem_of_lookup h2)
 ·have hy:scope.names.lookup y=some .cell∨scope.names.lookup y=some .free:=hy
  rcases hy with hy | hy
  ·exact zjs hy
  ·exact absurd rfl (S.nofree _ (PySem.mem_of_lookup hy))
 ·exact Nat.le_of_lt (x.above y c (PySem.mem_of_lookup h))
 ·have hi:i < vs.length:=by
   unfold start at h2
   by_cases hi:i < vs.length
   ·exact hi
   ·rw [List.getElem?_append_right (by simpa using hi)] at h2
    rw [List.getElem?_replicate] at h2
    split at h2 <;> cases h2
  have ha:vs[i]? =some v:=by
   unfold start at h2
   rw [List.getElem?_append_left (by simpa using hi),List.getElem?_map] at h2
   cases e:vs[i]? with
   | none=>rw [e] at h2;cases h2
   | some a=>rw [e] at h2;cases h2;rfl
  obtain ⟨u,hu,rv⟩:=r.get ha
  have hp:ps[i]? =some y:=by
   rw [←S.pre,List.getElem?_take_of_lt (by omega)];exact h1
  have ndP:ps.Nodup:=by rw [←S.pre];exact S.nd.sublist (List.take_sublist _ _)
  refine ⟨u,rv,?_⟩
  rcases S.par y (List.mem_of_getElem? hp) with k | k
  ·exact .inl ⟨k,zhw ndP hp hu k⟩
  ·obtain ⟨c,e⟩:=zjs (n:=s.heap.objs.size+1) k
   refine .inr ⟨.inl k,c,e,?_⟩
   have q:=x.cell y c e
   rw [zhv ndP hp hu (by show scope.names.lookup y≠_;rw [k];decide)] at q
   exact q
 ·exact e0.hok.fresh (Nat.le_of_lt (x.above y c (PySem.mem_of_lookup h)))
 ·unfold start
  show _=N.length
  rw [List.length_append,List.length_map,List.length_replicate]
  omega
theorem zva {CX:yu} {P:Program} {w:World} {K:PySem.W.Frag} {mg:Str→Option Value} {base:Heap} {k:Nat} {f:Addr} {name qual:Str} {params:Arguments} {body:List Stmt} {scope:Scope} {dV kV doc pm cdv ct oc:Value} {an od:Option Addr}
  {osl:Array (Option Value)} {N ps:List Str} {sp:Sp} (lk:K.lookup f=some ⟨oc,od,.func (PySem.W.fnOf name qual params body scope dV kV doc pm an cdv ct),osl⟩) (hcd:PySem.W.codeIn K cdv qual=true) (S:FnScope N ps scope)
  (len: ∀vs H Q E,sp vs H Q E→vs.length=ps.length)
  (hbody: ∀(A:Around) (outer:List Env) (s:Shared) (H:Hp) (vs:List V) (Q:VK) (E:XK),Room k (A.deeper (envOfC qual scope s.heap.objs.size f cdv))→sp vs H Q E→
   ∃t,z8 (zU CX P w K mg base N qual scope f cdv A outer s H E) body t∧t {nx:=fun _ H'=>Q .non H',rt:=Q} (start N vs) H):
  FnOk P w K mg base CX (k+1) f (PySem.W.fnOf name qual params body scope dV kV doc pm an cdv ct) ps sp:=by
 refine ⟨len,fun A outer s H args us vs Q E hr e0 hb r hsp=>?_⟩
 have hl:=len _ _ _ _ hsp
 have KX:K.In s.heap:=e0.mod.kin.keeps fun b o e=>(e0.bs b o e).1
 have lim:s.heap.NoLimit:=e0.mod.nolimit.keeps fun b o e=>(e0.bs b o e).1
 have hkind: ∀y∈ps.zip us,scope.names.lookup y.1=some .local∨(scope.names.lookup y.1=some .cell∧((cellsFrom (s.heap.objs.size+1) scope.names []).lookup y.1).isSome=true):=fun ⟨n,v⟩ hy=>by
  rcases S.par n (List.of_mem_zip hy).1 with q | q
  ·exact .inl q
  ·exact .inr ⟨q,PySem.W.cellsFrom_some _ _ _ (.inl q)⟩
 refine codeAny_call_function hr.depth (KX _ _ lk) rfl S.co S.gen rfl (PySem.W.codeRec_of KX hcd) (hb _ _ _ _ ?_)
 refine wpAny_newFunctionEnv_cells S.kind hkind fun env he s1 x=>?_
 subst he
 refine ⟨lim.keeps x.toInCall.keep,codeAny_func ?_⟩
 obtain ⟨t,ht,hq⟩:=hbody A outer s H vs Q E (hr.deeper _) hsp
 have I:Inv (zU CX P w K mg base N qual scope f cdv A outer s H E) [] (start N vs) H s1:=zhm S hr.hd e0 hl r x
 refine wpAny_mono (ht [] s1 (start N vs) H _ I hq) (fun fl s' hs=>?_) fun e s' hs=>hs
 have fin: ∀{σ':St} {H':Hp} {v:V} {u:Value},Inv (zU CX P w K mg base N qual scope f cdv A outer s H E) [] σ' H' s'→RelV v u→Q v H'→CE outer P w H s Q u s':=
  fun {σ' H' v u} J rv q=>⟨v,H',J.os,J.bare,J.base,J.hok,rv,q⟩
 cases fl with
 | ret u=>
  obtain ⟨v,σ',H',J,rv,q⟩:=hs
  exact fin J rv q
 | next=>
  obtain ⟨σ',H',J,q⟩:=hs
  exact fin (v:=V.non) (u:=Value.none) J rfl q
 | brk=>
  obtain ⟨_,_,_,q⟩:=hs
  exact False.elim q
 | cont=>
  obtain ⟨_,_,_,q⟩:=hs
  exact False.elim q
section
variable {X:Cx} {x:Str} {p pos:Pos} {e:Expr} {es:List Expr} {t:TA} {id T:String} {r:List V→Hp→VK→Prop}
def tCB (r:List V→Hp→VK→Prop) (t:TA):TE:=fun σ H Q=>t σ H fun vs H1=>r vs H1 Q
theorem zoa (hc:yA X (.builtin id) r) (hg:Gl X x) (hm:X.mg x=none) (hv:bootBuiltins x=some (.builtin id)) (ha:PA X (e::es) t) (hn:x≠"__name__" :=by decide) (hdb:(x==("__debug__" :Str))=false:=by decide)
  (he:starEach (e::es) X.env=(false,eval e X.env)::starEach es X.env:=by rfl) (hpl:(backTo pos (starEach es X.env)).any (·.1)=false:=by rfl):PE X (.Call (.Name x p) (e::es) [] pos) (tCB r t):=by
 intro pins s σ H Q I h
 refine wpAny_Call_Name_kw (zff I hg hm hv ?_ hn hdb)
 exact PyProof.Rows.callWith_builtin1 (zo (ha pos pins s σ H _ I h) fun us s1 ⟨vs,H1,I1,r1,q1⟩=>hc pins s1 σ H1 vs us Q I1 r1 q1) he hpl
theorem zlg (hc:yA X (.type T) r) (hg:Gl X x) (hm:X.mg x=none) (hv:bootBuiltins x=some (.type T)) (ha:PA X (e::es) t) (hn:x≠"__name__" :=by decide) (hdb:(x==("__debug__" :Str))=false:=by decide)
  (he:starEach (e::es) X.env=(false,eval e X.env)::starEach es X.env:=by rfl) (hpl:(backTo pos (starEach es X.env)).any (·.1)=false:=by rfl):PE X (.Call (.Name x p) (e::es) [] pos) (tCB r t):=by
 intro pins s σ H Q I h
 refine wpAny_Call_Name_kw (zff I hg hm hv ?_ hn hdb)
 exact PyProof.Rows.callWith_type1 (zo (ha pos pins s σ H _ I h) fun us s1 ⟨vs,H1,I1,r1,q1⟩=>hc pins s1 σ H1 vs us Q I1 r1 q1) he hpl
end
end L2
namespace HT
open PySem PyProof.Rows
section
variable {prog:Program} {w:World} {A:Around} {E:Value→Shared→Prop} {s:Shared}
def sIx (n d:Nat):Option Int→Nat
 | none=>d
 | some v=>if v < 0 then (v+(n:Int)).toNat else min v.toNat n
theorem zsn (n d:Nat) (hd:d≤n) (o:Option Int):sIx n d o≤n:=by
 cases o with
 | none=>exact hd
 | some v=>
  show (if v < 0 then (v+(n:Int)).toNat else min v.toNat n)≤n
  by_cases hv:v < 0
  ·rw [if_pos hv];omega
  ·rw [if_neg hv];exact Nat.min_le_right _ _
theorem zlk (v:Int) (n d:Nat):(if v < 0 then max (v+(n:Int)) 0 else min v (n:Int))=((sIx n d (some v):Nat):Int):=by
 show (if v < 0 then max (v+(n:Int)) 0 else min v (n:Int))=(((if v < 0 then (v+(n:Int)).toNat else min v.toNat n):Nat):Int)
 by_cases hv:v < 0
 ·simp only [if_pos hv];omega
 ·simp only [if_neg hv];omega
theorem zkl (lo hi:Option Int) (n:Nat):Builtin.Slice.sliceAdjust lo hi 1 (n:Int)=(((sIx n 0 lo:Nat):Int),((sIx n n hi:Nat):Int)):=by
 have h1: ¬((1:Int) < 0):=by omega
 unfold Builtin.Slice.sliceAdjust
 simp only [h1,if_false]
 refine Prod.ext ?_ ?_
 ·cases lo with
  | none=>rfl
  | some v=>exact zlk v n 0
 ·cases hi with
  | none=>rfl
  | some v=>exact zlk v n n
theorem zko (i j:Nat):Builtin.Slice.slicePlaces (i:Int) (j:Int) 1=j - i:=by
 unfold Builtin.Slice.slicePlaces
 have h1:(1:Int) > 0:=by omega
 simp only [h1,if_true,Int.ediv_one]
 split <;> omega
theorem zgh {v:Value} {o:Option Int} {Q:Option Int→Shared→Prop} (p:IsPart v o) (h:Q o s):wpAny (model prog w) A (Builtin.Slice.slicePartIndex v) Q E s:=by
 cases p with
 | none=>exact slicePart_none h
 | int i t=>exact slicePart_int h
theorem ze7 {sl:Addr} {vl vu:Value} {lo hi:Option Int} {n:Nat} {Q:Int×Int×Nat→Shared→Prop} (hs:s.heap.IsSliceOf sl vl vu .none) (pl:IsPart vl lo) (pu:IsPart vu hi)
  (h:Q (((sIx n 0 lo:Nat):Int),1,sIx n n hi - sIx n 0 lo) s):wpAny (model prog w) A (Builtin.Slice.sliceApplied (.ref sl) (pure (n:Int))) Q E s:=by
 obtain ⟨os,hos,hcs,hds⟩:=id hs
 unfold Builtin.Slice.sliceApplied Builtin.Slice.sliceFields
 refine wpAny_bind (wpAny_bind (wpAny_field hos hds (x:=vl) rfl (wpAny_bind (wpAny_field hos hds (x:=vu) rfl (wpAny_bind (wpAny_field hos hds (x:= .none) rfl (wpAny_pure ?_)))))))
 refine wpAny_bind (slicePart_none ?_)
 show wpAny _ _ (if ((1:Int)==0)=true then _ else _) _ _ s
 rw [if_neg (by decide)]
 refine wpAny_bind (zgh pl (wpAny_bind (zgh pu (wpAny_bind (wpAny_pure ?_)))))
 show wpAny _ _ (match Builtin.Slice.sliceAdjust lo hi 1 (n:Int) with | (lo,hi)=>pure (lo,(1:Int),Builtin.Slice.slicePlaces lo hi 1)) _ _ s
 rw [zkl lo hi n]
 show wpAny _ _ (pure (((sIx n 0 lo:Nat):Int),(1:Int),Builtin.Slice.slicePlaces ((sIx n 0 lo:Nat):Int) ((sIx n n hi:Nat):Int) 1)) _ _ s
 rw [zko]
 exact wpAny_pure h
theorem zn3 (xs:Array Value) (i k:Nat):((List.range k).filterMap fun (m:Nat)=>xs[((i:Int)+(m:Int)*1).toNat]?).toArray=((xs.toList.drop i).take k).toArray:=by
 have e:(fun (m:Nat)=>xs[((i:Int)+(m:Int)*1).toNat]?)=fun m=>xs[i+m]? :=by
  funext m
  have:((i:Int)+(m:Int)*1).toNat=i+m:=by omega
  rw [this]
 rw [e]
 have:=pick_run xs i k
 rw [List.filterMap_map] at this
 have e2:((fun x=>xs[x]?)∘fun x=>i+x)=fun m=>xs[i+m]? :=rfl
 rw [e2] at this
 rw [this]
theorem getItem_tuple_cut {t sl:Addr} {items:Array Value} {vl vu:Value} {lo hi:Option Int} {Q:Value→Shared→Prop} (ht:IsTup s.heap t items) (hs:s.heap.IsSliceOf sl vl vu .none) (pl:IsPart vl lo) (pu:IsPart vu hi)
  (hw: ¬(sIx items.size 0 lo=0∧sIx items.size items.size hi=items.size))
  (h:Q (.ref s.heap.objs.size) {s with heap:=s.heap.push {cls:= .type "tuple",data:= .seq ((items.toList.drop (sIx items.size 0 lo)).take (sIx items.size items.size hi - sIx items.size 0 lo)).toArray}})
  (hsz:items.size≤sizeLine):wpAny (model prog w) A (getItem (.ref t) (.ref sl)) Q E s:=by
 have htake:sizeOk (.seq ((items.toList.drop (sIx items.size 0 lo)).take (sIx items.size items.size hi - sIx items.size 0 lo)).toArray):=by
  show ((items.toList.drop (sIx items.size 0 lo)).take (sIx items.size items.size hi - sIx items.size 0 lo)).toArray.size≤sizeLine
  rw [List.size_toArray,List.length_take,List.length_drop,Array.length_toList]
  omega
 have hj:sIx items.size items.size hi≤items.size:=zsn _ _ (Nat.le_refl _) hi
 obtain ⟨os,hos,hcs,hds⟩:=id hs
 have hTs:s.TypeIs (.ref sl) "slice" :=⟨os,hos,hcs⟩
 unfold getItem
 try with_reducible refine wpAny_holding ?_
 first | refine wpAny_bind (wpAny_pure ?_) | skip
 refine wpAny_bind (wpAny_sequenceKey ht.typeIs (by decide) ?_)
 refine wpAny_bind (wpAny_callSpecial?_slot (name:=Str.ofString "__getitem__") ht.typeIs PyProof.Rows.slot_tuple_getitem
  (wpAny_call_entry PyProof.Rows.slot_tuple_getitem ht.typeIs entry_tuple_getitem ?_ (args_tuple_getitem _ _)))
 show wpAny _ _ (Builtin.Tuple.tupleItemsOf (.ref t) >>=_) _ _ s
 refine wpAny_bind (tupleItemsOf_ ht ?_)
 refine wpAny_bind (wpAny_typeOf hTs ?_)
 rw [if_pos (by decide)]
 refine wpAny_bind (ze7 hs pl pu ?_)
 have hno: ¬((((sIx items.size 0 lo:Nat):Int)==0 && (1:Int)==1 && (sIx items.size items.size hi - sIx items.size 0 lo)==items.size)=true):=by
  intro q
  rw [Bool.and_eq_true,Bool.and_eq_true] at q
  have q1:((sIx items.size 0 lo:Nat):Int)=0:=eq_of_beq q.1.1
  have q2:sIx items.size items.size hi - sIx items.size 0 lo=items.size:=eq_of_beq q.2
  exact hw ⟨by omega,by omega⟩
 show wpAny _ _ (if (((sIx items.size 0 lo:Nat):Int)==0 && (1:Int)==1 && (sIx items.size items.size hi - sIx items.size 0 lo)==items.size)=true then _ else _) _ _ s
 rw [if_neg hno,zn3]
 first
  | exact wpAny_bind (m:=Builtin.Tuple.tupleExact _) (wpAny_newObj_type (wpAny_pure ⟨_,rfl,wpAny_pure h⟩) htake)
  | exact wpAny_bind (m:=Builtin.Tuple.tupleExact _) (wpAny_newObj_type (wpAny_bind (wpAny_pure (wpAny_pure ⟨_,rfl,wpAny_pure h⟩))) htake)
  | exact wpAny_bind (wpAny_bind (m:=Builtin.Tuple.tupleExact _) (wpAny_newObj_type (wpAny_pure (wpAny_pure ⟨_,rfl,wpAny_pure h⟩)) htake))
  | exact wpAny_bind (wpAny_bind (m:=Builtin.Tuple.tupleExact _) (wpAny_newObj_type (wpAny_pure ⟨_,rfl,wpAny_pure h⟩) htake))
end
end HT
namespace L2
open PySem PySem.Spec PyProof.Rows
abbrev TO:=St→Hp→(Option Int→Hp→Prop)→Prop
def PO (X:Cx) (e:Option Expr) (t:TO):Prop:=
 ∀(pins:List (Addr×Obj)) (s:Shared) (σ:St) (H:Hp) (Q:Option Int→Hp→Prop),Inv X pins σ H s→t σ H Q→
  wpAny (model X.prog X.w) X.A (evalPart e X.env) (fun u s'=> ∃o H',Inv X pins σ H' s'∧IsPart u o∧Q o H') X.xe s
def zqm:TO:=fun _ H Q=>Q none H
def zu7 (t:TE):TO:=fun σ H Q=>t σ H fun x H1=> ∃i,x= .int i∧Q (some i) H1
section
variable {X:Cx} {e:Expr} {te:TE} {lo hi:Option Expr} {tl th:TO} {pos p2:Pos}
theorem zqa:PO X none zqm:=by
 intro pins s σ H Q I h
 rw [evalPart_none]
 exact wpAny_pure ⟨none,H,I,.none,h⟩
theorem zrm (h:PE X e te):PO X (some e) (zu7 te):=by
 intro pins s σ H Q I hw
 rw [evalPart_some]
 refine zo (h pins s σ H _ I hw) fun u s1 ⟨x,H1,I1,r1,q1⟩=>?_
 obtain ⟨i,rfl,q⟩:=q1
 obtain ⟨t,rfl⟩:=r1
 exact ⟨some i,H1,I1,.int i t,q⟩
def SlR (X:Cx) (r:V→Option Int→Option Int→Hp→VK→Prop):Prop:=
 ∀(pins:List (Addr×Obj)) (s:Shared) (σ:St) (H:Hp) (x:V) (v vl vu:Value) (lo hi:Option Int) (sl:Addr) (Q:VK),Inv X pins σ H s→RelV x v→s.heap.IsSliceOf sl vl vu .none→IsPart vl lo→IsPart vu hi→r x lo hi H Q→
  ∃T id,typeLookup (.type T) "__getitem__" =pure (some (.builtin id))∧s.TypeIs v T∧wpAny (model X.prog X.w) X.A (getItem v (.ref sl)) (EP X pins σ Q) X.xe s
theorem SlR.or {r r':V→Option Int→Option Int→Hp→VK→Prop} (h:SlR X r) (h':SlR X r'):SlR X (fun x lo hi H Q=>r x lo hi H Q∨r' x lo hi H Q):=by
 intro pins s σ H x v vl vu lo hi sl Q I rx hs pl pu q
 rcases q with q | q
 ·exact h pins s σ H x v vl vu lo hi sl Q I rx hs pl pu q
 ·exact h' pins s σ H x v vl vu lo hi sl Q I rx hs pl pu q
def tSl (r:V→Option Int→Option Int→Hp→VK→Prop) (te:TE) (tl th:TO):TE:=fun σ H Q=>te σ H fun x H1=>tl σ H1 fun l H2=>th σ H2 fun u H3=>r x l u H3 Q
theorem zo5 {r:V→Option Int→Option Int→Hp→VK→Prop} (hr:SlR X r) (he:PE X e te) (hl:PO X lo tl) (hu:PO X hi th):PE X (.Subscript e (.Slice lo hi none p2) pos) (tSl r te tl th):=by
 intro pins s σ H Q I h
 refine Subscript_ (zo (he pins s σ H _ I h) fun v s1 ⟨x,H1,I1,r1,q1⟩=>?_)
 refine wpAny_Slice (zo (hl pins s1 σ H1 _ I1 q1) fun vl s2 ⟨l,H2,I2,pl,q2⟩=>zo (hu pins s2 σ H2 _ I2 q2) fun vu s3 ⟨u,H3,I3,pu,q3⟩=>?_)
 rw [evalPart_none]
 refine wpAny_pure ?_
 have I4:Inv X pins σ H3 {s3 with heap:=s3.heap.push {cls:= .type "slice",data:= .fields #[vl,vu,.none]}}:=I3.kept (t':=s3.toks) fun b ob q=>Heap.get?_push_of_some _ q
 obtain ⟨T,id,hT,ht,hg⟩:=hr pins {s3 with heap:=s3.heap.push {cls:= .type "slice",data:= .fields #[vl,vu,.none]}} σ H3 x v vl vu l u s3.heap.objs.size Q I4 r1 (Heap.IsSliceOf.new ..) pl pu q3
 show wpAny (model X.prog X.w) X.A (subscriptTail e (.Slice lo hi none p2) v (.ref s3.heap.objs.size)) (EP X pins σ Q) X.xe {s3 with heap:=s3.heap.push {cls:= .type "slice",data:= .fields #[vl,vu,.none]}}
 exact tail_any (ops:=[.ref s3.heap.objs.size,v]) ht hT hg (by with_unfolding_all rfl)
def cutV (xs:List V) (lo hi:Option Int):List V:=(xs.drop (HT.sIx xs.length 0 lo)).take (HT.sIx xs.length xs.length hi - HT.sIx xs.length 0 lo)
theorem zfx (xs:List V) (lo hi:Option Int):(cutV xs lo hi).length≤xs.length:=by
 unfold cutV
 rw [List.length_take,List.length_drop]
 omega
def rSlT (K:PySem.W.Frag):V→Option Int→Option Int→Hp→VK→Prop:=fun x lo hi H Q=> ∃a xs,x= .ref a∧SqT K H a xs∧
 ¬(HT.sIx xs.length 0 lo=0∧HT.sIx xs.length xs.length hi=xs.length)∧∀p,H p=none→Q (.ref p) (zg H p (.tup (cutV xs lo hi)))
theorem sl_tup:SlR X (rSlT X.K):=by
 intro pins s σ H x v vl vu lo hi sl Q I rx hs pl pu h
 obtain ⟨a,xs,rfl,hx,hw,q⟩:=h
 cases rx
 obtain ⟨its,r,ht,hz⟩:=I.tuple hx
 have hlen:its.toArray.size=xs.length:=by rw [List.size_toArray];exact r.length.symm
 refine ⟨"tuple",_,PyProof.Rows.slot_tuple_getitem.lookup,ht.typeIs,?_⟩
 refine HT.getItem_tuple_cut ht hs pl pu (by rw [hlen];exact hw) ?_ (by rw [hlen];exact hz)
 rw [hlen]
 refine ⟨.ref s.heap.objs.size,_,I.laid (t':=s.toks) (o:= .tup (cutV xs lo hi)) (fun b ob q=>Heap.get?_push_of_some _ q) (Nat.le_refl _) ?_,rfl,q _ (I.hok.fresh (Nat.le_refl _))⟩
 exact ⟨Nat.le_trans (zfx xs lo hi) hz,_,(r.drop (HT.sIx xs.length 0 lo)).take (HT.sIx xs.length xs.length hi - HT.sIx xs.length 0 lo),IsTup.new _ _⟩
end
def yM (n:Nat) (i:Int):Option Nat:=if 0≤i then (if i < n then some i.toNat else none) else if -(n:Int)≤i then some (i+n).toNat else none
def atI {α:Type} (xs:List α) (i:Int):Option α:=(yM xs.length i).bind fun j=>xs[j]?
theorem zk5 {n:Nat} {i:Int} {j:Nat} (h:yM n i=some j):seqIndex? i n=some j∧j < n∧ -(n:Int)≤i∧i < n:=by
 unfold yM at h
 by_cases h0:0≤i
 ·rw [if_pos h0] at h
  by_cases h1:i < n
  ·rw [if_pos h1] at h
   have e:i.toNat=j:=Option.some.inj h
   exact ⟨by rw [seqIndex_of h0 h1,e],by omega,by omega,h1⟩
  ·rw [if_neg h1] at h;cases h
 ·rw [if_neg h0] at h
  by_cases h1: -(n:Int)≤i
  ·rw [if_pos h1] at h
   have e:(i+n).toNat=j:=Option.some.inj h
   exact ⟨by rw [seqIndex_neg (by omega) h1,e],by omega,h1,by omega⟩
  ·rw [if_neg h1] at h;cases h
theorem zit {α:Type} {xs:List α} {i:Int} {v:α} (h:atI xs i=some v): ∃j,seqIndex? i xs.length=some j∧xs[j]? =some v∧j < xs.length∧ -(xs.length:Int)≤i∧i < xs.length:=by
 unfold atI at h
 cases e:yM xs.length i with
 | none=>rw [e] at h;cases h
 | some j=>
  rw [e] at h
  obtain ⟨h1,h2,h3,h4⟩:=zk5 e
  exact ⟨j,h1,h,h2,h3,h4⟩
theorem zdi {α:Type} {xs:List α} {j:Nat} {v:α} (h:xs[j]? =some v):atI xs (j:Int)=some v:=by
 have hj:j < xs.length:=(List.getElem?_eq_some_iff.mp h).1
 have e:yM xs.length (j:Int)=some j:=by
  unfold yM
  rw [if_pos (by omega),if_pos (by omega)];simp
 unfold atI;rw [e];exact h
theorem zoq {α:Type} (xs:List α) (v:α):atI (xs++[v]) (-1)=some v:=by
 have hl:(xs++[v]).length=xs.length+1:=by simp
 have e:yM (xs++[v]).length (-1)=some xs.length:=by
  unfold yM
  rw [hl,if_neg (by decide),if_pos (by omega)]
  congr 1
  omega
 unfold atI
 rw [e]
 show (xs++[v])[xs.length]? =some v
 simp
def zl8 (b:Expr):Prop:=∀o i,subscripted b false o i=operate [o,i] (getItem o i)
def IxR (X:Cx) (r:R2):Prop:=
 ∀(value slice:Expr) (pins:List (Addr×Obj)) (s:Shared) (σ:St) (H:Hp) (x y:V) (v u:Value) (Q:VK),Inv X pins σ H s→RelV x v→RelV y u→r x y H Q→
  subscripted slice false v u=operate [v,u] (getItem v u)→wpAny (model X.prog X.w) X.A (subscriptTail value slice v u) (EP X pins σ Q) X.xe s
def MtR (X:Cx) (id:String) (r:V→List V→Hp→VK→Prop):Prop:=
 ∀(pins:List (Addr×Obj)) (s:Shared) (σ:St) (H:Hp) (x:V) (xs:List V) (v:Value) (us:List Value) (Q:VK),Inv X pins σ H s→RelV x v→Vals xs us→r x xs H Q→
  wpAny (model X.prog X.w) X.A (call (.builtin id) (v::us)) (EP X pins σ Q) X.xe s
section
variable {X:Cx} {a b:Expr} {ta tb:TE} {pos:Pos}
theorem IxR.or {r r':R2} (h:IxR X r) (h':IxR X r'):IxR X (fun x y H Q=>r x y H Q∨r' x y H Q):=by
 intro value slice pins s σ H x y v u Q I rx ry q hs
 rcases q with q | q
 ·exact h value slice pins s σ H x y v u Q I rx ry q hs
 ·exact h' value slice pins s σ H x y v u Q I rx ry q hs
theorem zvt {r:R2} (hr:IxR X r) (ha:PE X a ta) (hb:PE X b tb) (hs:zl8 b):PE X (.Subscript a b pos) (tOp r ta tb):=by
 intro pins s σ H Q I h
 exact Subscript_ (binT ha hb I h fun v u s2 x y H2 I2 rx ry q=>hr a b pins s2 σ H2 x y v u Q I2 rx ry q (hs _ _))
def rIxL (K:PySem.W.Frag):R2:=fun x y H Q=> ∃p xs i v,x= .ref p∧y= .int i∧SqL K H p xs∧atI xs i=some v∧Q v H
def rIxT (K:PySem.W.Frag):R2:=fun x y H Q=> ∃p xs i v,x= .ref p∧y= .int i∧SqT K H p xs∧atI xs i=some v∧Q v H
def rIxS:R2:=fun x y H Q=> ∃z i c,x= .str z∧y= .int i∧z.length≤sizeLine∧atI z.cps.toList i=some c∧Q (.str ⟨#[c]⟩) H
theorem ix_list:IxR X (rIxL X.K):=by
 intro value slice pins s σ H x y v u Q I rx ry h hs
 obtain ⟨p,xs,i,z,rfl,rfl,hq,he,q⟩:=h
 cases rx
 obtain ⟨t,rfl⟩:=ry
 obtain ⟨its,r,pl,hz⟩:=I.list hq
 obtain ⟨j,h1,h2,h3,h4,h5⟩:=zit he
 obtain ⟨w,ew,rw'⟩:=r.get h2
 have hl:=r.length
 have hn:=zgk
 have fin:EP X pins σ Q w s:=⟨z,H,I,rw',q⟩
 by_cases h0:0≤i
 ·have hj:i.toNat=j:=by
   rw [seqIndex_of h0 h5] at h1
   exact Option.some.inj h1
  exact item_listR pl.isList h0 (by omega) (by rw [hj];simpa using ew) fin hs
 ·have hj:(i+(its.toArray.size:Int)).toNat=j:=by
   rw [seqIndex_neg (by omega) h4] at h1
   rw [List.size_toArray,←hl]
   exact Option.some.inj h1
  exact subscriptTail_builtinR (x:=w) pl.isList.typeIs slot_list_getitem.lookup
   (wpAny_getItem_list_neg (Q:=fun r s'=>r=w∧EP X pins σ Q r s') pl.isList (by omega) (by rw [List.size_toArray] <;> omega) (by omega) (by rw [hj];simpa using ew) ⟨rfl,fin⟩) hs
theorem ix_tup:IxR X (rIxT X.K):=by
 intro value slice pins s σ H x y v u Q I rx ry h hs
 obtain ⟨p,xs,i,z,rfl,rfl,hq,he,q⟩:=h
 cases rx
 obtain ⟨t,rfl⟩:=ry
 obtain ⟨its,r,pl,hz⟩:=I.tuple hq
 obtain ⟨j,h1,h2,h3,h4,h5⟩:=zit he
 obtain ⟨w,ew,rw'⟩:=r.get h2
 have hl:=r.length
 have hn:=zgk
 have fin:EP X pins σ Q w s:=⟨z,H,I,rw',q⟩
 exact subscriptTail_builtinR (x:=w) pl.typeIs slot_tuple_getitem.lookup
  (getItem_tuple (j:=j) (Q:=fun r s'=>r=w∧EP X pins σ Q r s') pl (by omega) (by omega) (by rw [List.size_toArray,←hl];exact h1) (by simpa using ew) ⟨rfl,fin⟩) hs
theorem zss:IxR X rIxS:=by
 intro value slice pins s σ H x y v u Q I rx ry h hs
 obtain ⟨z,i,c,rfl,rfl,hz,he,q⟩:=h
 obtain ⟨t,rfl⟩:=rx
 obtain ⟨t',rfl⟩:=ry
 obtain ⟨j,h1,h2,h3,h4,h5⟩:=zit he
 have hl:z.cps.toList.length=z.length:=by simp [Str.length]
 rw [hl] at h1 h4 h5
 have hn:=zgk
 exact tail_any (typeIs_str s z t) slot_str_getitem.lookup (getItem_str (c:=c) (by
  have e1:decide (i < -(2 ^ 63:Int))=false:=decide_eq_false (by omega)
  have e2:decide (i≥2 ^ 63)=false:=decide_eq_false (by omega)
  rw [e1,e2,Bool.or_false]) (by rw [h1];simpa using h2) ⟨.str ⟨#[c]⟩,H,I.tok _,⟨_,rfl⟩,q⟩) hs
theorem zkr (its:List Value) (n j:Nat) (u:Value):Obj.mapSeq (·.setIfInBounds j u) {cls:= .type "list",data:= .seq its.toArray n}={cls:= .type "list",data:= .seq (its.set j u).toArray n}:=by
 simp [Obj.mapSeq]
theorem Inv.lst {pins:List (Addr×Obj)} {σ:St} {H:Hp} {s:Shared} {p:Addr} {xs:List V} (I:Inv X pins σ H s) (h:H p=some (.lst xs)):
  ∃(its:List Value) (n:Nat),Vals xs its∧s.heap.get? p=some {cls:= .type "list",data:= .seq its.toArray n}∧xs.length≤sizeLine:=by
 obtain ⟨z,its,n,r,e⟩:=I.hok p _ h
 exact ⟨its,n,r,e,z⟩
theorem Inv.lstUpd {pins:List (Addr×Obj)} {σ:St} {H:Hp} {s:Shared} {p:Addr} {xs ys:List V} {its its':List Value} {n n':Nat} {f:Obj→Obj} (I:Inv X pins σ H s) (h:H p=some (.lst xs))
  (ho:s.heap.get? p=some {cls:= .type "list",data:= .seq its.toArray n}) (hf:f {cls:= .type "list",data:= .seq its.toArray n}={cls:= .type "list",data:= .seq its'.toArray n'}) (r:Vals ys its') (hz:ys.length≤sizeLine) (t:Nat):
  Inv X pins σ (zg H p (.lst ys)) {s with heap:=s.heap.update p f,toks:=t}:=by
 have e:(s.heap.update p f).get? p=some {cls:= .type "list",data:= .seq its'.toArray n'}:=by
  rw [Heap.get?_update_self f ho (by rw [hf] <;> rfl),hf]
 refine I.write (x:=p) (e:=p) (by rw [h];trivial) (.inl rfl) (fun b u hb q=>(Heap.get?_update_other _ _ (Ne.symm hb)).trans q) ⟨_,e⟩ ?_
 exact ⟨hz,its',n',r,e⟩
def zqv:V→V→V→Hp→(Hp→Prop)→Prop:=fun o i v H Q=> ∃p xs k j,o= .ref p∧i= .int k∧H p=some (.lst xs)∧yM xs.length k=some j∧Q (zg H p (.lst (xs.set j v)))
theorem znq:PSet X zqv:=by
 intro pins s σ H o i v ov iv u Q I ro ri rv h
 obtain ⟨p,xs,k,j,rfl,rfl,hp,hj,q⟩:=h
 cases ro
 obtain ⟨t,rfl⟩:=ri
 obtain ⟨its,n,r,ho,hz⟩:=I.lst hp
 obtain ⟨h1,h2,h3,h4⟩:=zk5 hj
 have hl:=r.length
 have hn:=zgk
 have I':Inv X pins σ (zg H p (.lst (xs.set j v))) {s with heap:=s.heap.update p (Obj.mapSeq (·.setIfInBounds j u))}:=
  I.lstUpd hp ho (zkr its n j u) (r.set rv j) (by rw [List.length_set];exact hz) s.toks
 by_cases h0:0≤k
 ·have hk:k.toNat=j:=by
   rw [seqIndex_of h0 h4] at h1
   exact Option.some.inj h1
  exact PySem.W.ki_setAt ho h0 (by omega) (by rw [List.size_toArray,←hl];exact h4) (by rw [hk];exact ⟨_,I',q⟩)
 ·have hk:(k+(its.toArray.size:Int)).toNat=j:=by
   rw [seqIndex_neg (by omega) h3] at h1
   rw [List.size_toArray,←hl]
   exact Option.some.inj h1
  exact PySem.W.ki_setBack ho (by omega) (by rw [List.size_toArray,←hl];exact h3) (by omega) (by rw [hk];exact ⟨_,I',q⟩)
theorem zie (lo hi:Option Int) (n:Nat):(sliceBounds lo hi none n).1=((HT.sIx n 0 lo:Nat):Int)∧(sliceBounds lo hi none n).2.1=((HT.sIx n n hi:Nat):Int)∧(sliceBounds lo hi none n).2.2=1:=by
 refine ⟨?_,?_,rfl⟩
 ·cases lo with
  | none=>simp [sliceBounds,HT.sIx]
  | some i=>
   simp only [sliceBounds,HT.sIx,Option.getD_none,show (1:Int) > 0 by decide,if_true]
   by_cases h:i < 0
   ·simp only [h,if_true] <;> omega
   ·simp only [h,if_false] <;> omega
 ·cases hi with
  | none=>simp [sliceBounds,HT.sIx]
  | some i=>
   simp only [sliceBounds,HT.sIx,Option.getD_none,show (1:Int) > 0 by decide,if_true]
   by_cases h:i < 0
   ·simp only [h,if_true] <;> omega
   ·simp only [h,if_false] <;> omega
theorem zg8 (its:List Value) (lo hi:Option Int):slicePick its.toArray lo hi none=((its.drop (HT.sIx its.length 0 lo)).take (HT.sIx its.length its.length hi - HT.sIx its.length 0 lo)).toArray:=by
 obtain ⟨h1,h2,h3⟩:=zie lo hi its.toArray.size
 unfold slicePick
 rw [h1,h2,h3]
 simp only [sliceRange_one,pick_run,List.size_toArray] <;> rfl
def rSlL (K:PySem.W.Frag):V→Option Int→Option Int→Hp→VK→Prop:=fun x lo hi H Q=> ∃a xs,x= .ref a∧SqL K H a xs∧∀p,H p=none→Q (.ref p) (zg H p (.lst (cutV xs lo hi)))
theorem sl_list:SlR X (rSlL X.K):=by
 intro pins s σ H x v vl vu lo hi sl Q I rx hs pl pu h
 obtain ⟨a,xs,rfl,hx,q⟩:=h
 cases rx
 obtain ⟨its,r,ht,hz⟩:=I.list hx
 have hlen:=r.length
 refine ⟨"list",_,slot_list_getitem.lookup,ht.isList.typeIs,?_⟩
 refine wpAny_getItem_list_slice ht.isList hs pl pu .none (by simp) ?_ (by rw [List.size_toArray] <;> omega)
 rw [zg8,←hlen]
 refine ⟨.ref s.heap.objs.size,_,I.laid (t':=s.toks) (o:= .lst (cutV xs lo hi)) (fun b ob q=>Heap.get?_push_of_some _ q) (Nat.le_refl _) ?_,rfl,q _ (I.hok.fresh (Nat.le_refl _))⟩
 exact ⟨Nat.le_trans (zfx xs lo hi) hz,_,0,(r.drop (HT.sIx xs.length 0 lo)).take (HT.sIx xs.length xs.length hi - HT.sIx xs.length 0 lo),Heap.get?_push_size _ rfl⟩
def zi1:V→Bool
 | .non=>true
 | .bl _=>true
 | .int _=>true
 | .str _=>true
 | _=>false
def eqV:V→V→Bool
 | .non,.non=>true
 | .bl a,.bl b=>a==b
 | .bl a,.int b=>(if a then 1 else 0)==b
 | .int a,.bl b=>a==(if b then 1 else 0)
 | .int a,.int b=>a==b
 | .str a,.str b=>a==b
 | _,_=>false
theorem zp0 {A:Around} {s:Shared} {y x:V} {u v:Value} (ry:RelV y u) (rx:RelV x v) (fy:zi1 y=true) (fx:zi1 x=true):SeqAt.EqAt A s u v (eqV y x):=by
 cases y with
 | non=>
  cases ry
  cases x with
  | non=>cases rx;exact SeqAt.EqAt.same _
  | bl b=>cases rx;exact SeqAt.EqAt.none_bool b
  | int b=>obtain ⟨t,rfl⟩:=rx;exact SeqAt.EqAt.none_int b t
  | str b=>obtain ⟨t,rfl⟩:=rx;exact SeqAt.EqAt.none_str b t
  | _=>exact absurd (show false=true from fx) Bool.false_ne_true
 | bl a=>
  cases ry
  cases x with
  | non=>cases rx;exact SeqAt.EqAt.bool_none a
  | bl b=>cases rx;exact SeqAt.EqAt.bool_bool a b
  | int b=>obtain ⟨t,rfl⟩:=rx;exact SeqAt.EqAt.bool_int a b t
  | str b=>obtain ⟨t,rfl⟩:=rx;exact SeqAt.EqAt.bool_str a b t
  | _=>exact absurd (show false=true from fx) Bool.false_ne_true
 | int a=>
  obtain ⟨t',rfl⟩:=ry
  cases x with
  | non=>cases rx;exact SeqAt.EqAt.int_none a t'
  | bl b=>cases rx;exact SeqAt.EqAt.int_bool a t' b
  | int b=>obtain ⟨t,rfl⟩:=rx;exact SeqAt.EqAt.int_int a t' b t
  | str b=>obtain ⟨t,rfl⟩:=rx;exact SeqAt.EqAt.int_str a t' b t
  | _=>exact absurd (show false=true from fx) Bool.false_ne_true
 | str a=>
  obtain ⟨t',rfl⟩:=ry
  cases x with
  | non=>cases rx;exact SeqAt.EqAt.str_none a t'
  | bl b=>cases rx;exact SeqAt.EqAt.str_bool a t' b
  | int b=>obtain ⟨t,rfl⟩:=rx;exact SeqAt.EqAt.str_int a t' b t
  | str b=>obtain ⟨t,rfl⟩:=rx;exact SeqAt.EqAt.str_str a t' b t
  | _=>exact absurd (show false=true from fx) Bool.false_ne_true
 | _=>exact absurd (show false=true from fy) Bool.false_ne_true
theorem zhz:yA X (.type "list") (fun xs H Q=> ∃p ys,xs=[.ref p]∧(SqL X.K H p ys∨SqT X.K H p ys)∧∀l,H l=none→Q (.ref l) (zg H l (.lst ys))):=by
 intro pins s σ H xs us Q I r h
 obtain ⟨p,ys,rfl,hq,q⟩:=h
 obtain ⟨u,rfl,rx⟩:=zm1 r
 cases rx
 have fin: ∀(its:List Value),Vals ys its→ys.length≤sizeLine→∀(h':Heap) (c':Nat),(∀b o',s.heap.get? b=some o'→h'.get? b=some o')→
   h'.get? s.heap.objs.size=some {cls:= .type "list",dict:=none,data:= .seq its.toArray c',slots:= #[]}→EP X pins σ Q (.ref s.heap.objs.size) {s with heap:=h'}:=fun its r' hz h' c' kp e=>
  ⟨.ref s.heap.objs.size,_,I.laid (t':=s.toks) kp (Nat.le_refl _) (show ObjOk X.prog X.w _ h' _ (.lst ys) from ⟨hz,its,c',r',e⟩),rfl,q _ (I.hok.fresh (Nat.le_refl _))⟩
 rcases hq with hq | hq
 ·obtain ⟨its,r',pl,hz⟩:=I.list hq
  have hlen:=r'.length
  obtain ⟨o,ho,hc,n,hd⟩:=pl.isList
  exact call_list_seq p (.inl rfl) ho hc hd (fun h' c' kp e=>fin its r' hz h' c' kp e) (by simp only [List.size_toArray] <;> omega)
 ·obtain ⟨its,r',pl,hz⟩:=I.tuple hq
  have hlen:=r'.length
  obtain ⟨o,ho,hc,n,hd⟩:=pl
  exact call_list_seq p (.inr rfl) ho hc hd (fun h' c' kp e=>fin its r' hz h' c' kp e) (by simp only [List.size_toArray] <;> omega)
def tyV (K:PySem.W.Frag) (T:String) (x:V) (H:Hp):Prop:=match x with
 | .str _=>T="str"
 | .int _=>T="int"
 | .ref p=>(T="list" ∧∃xs,SqL K H p xs)∨(T="tuple" ∧∃o,K.lookup p=some o∧o.cls= .type "tuple" ∧o.dict=none)∨
  (T="dict" ∧((∃kvs,H p=some (.dK kvs))∨∃kvs,H p=some (.dT kvs)))∨(T="set" ∧∃S n,H p=some (.set S n))
 | _=>False
theorem zp2 {pins:List (Addr×Obj)} {σ:St} {H:Hp} {s:Shared} {T:String} {x:V} {v:Value} (I:Inv X pins σ H s) (r:RelV x v) (ty:tyV X.K T x H):
  s.TypeIs v T∧∀a,v= .ref a→∃ob,s.heap.get? a=some ob∧ob.dict=none:=by
 cases x with
 | str z=>
  obtain ⟨t,rfl⟩:=r
  cases (show T="str" from ty)
  exact ⟨typeIs_str s z t,fun _ e=>nomatch e⟩
 | int i=>
  obtain ⟨t,rfl⟩:=r
  cases (show T="int" from ty)
  exact ⟨typeIs_int s i t,fun _ e=>nomatch e⟩
 | ref p=>
  cases r
  rcases ty with ⟨rfl,xs,hq⟩ | ⟨rfl,o,hk,hc,hd⟩ | ⟨rfl,hk⟩ | ⟨rfl,S,n,hk⟩
  ·obtain ⟨its,_,pl,_⟩:=I.list hq
   refine ⟨pl.isList.typeIs,fun a e=>?_⟩
   cases e
   obtain ⟨o,n,e,c,hd,_⟩:=pl
   exact ⟨o,e,hd⟩
  ·refine ⟨⟨o,I.kIn p o hk,hc⟩,fun a e=>?_⟩
   cases e
   exact ⟨o,I.kIn _ o hk,hd⟩
  ·have z: ∃o,s.heap.get? p=some o∧o.ExactDict:=by
    rcases hk with ⟨kvs,hk⟩ | ⟨kvs,hk⟩
    ·obtain ⟨_,_,_,_,o,_,_,e,ex,_⟩:=I.hok p _ hk
     exact ⟨o,e,ex⟩
    ·obtain ⟨_,_,_,_,o,_,_,e,ex,_⟩:=I.hok p _ hk
     exact ⟨o,e,ex⟩
   obtain ⟨o,e,ex⟩:=z
   refine ⟨⟨o,e,ex.1⟩,fun a e2=>?_⟩
   cases e2
   exact ⟨o,e,ex.2.1⟩
  ·obtain ⟨o,_,_,_,e,ex,_⟩:=I.hok p _ hk
   refine ⟨⟨o,e,ex.1⟩,fun a e2=>?_⟩
   cases e2
   exact ⟨o,e,ex.2.1⟩
 | _=>exact False.elim ty
def tBM0 (K:PySem.W.Frag) (T:String) (r:V→List V→Hp→VK→Prop) (to:TE):TE:=fun σ H Q=>to σ H fun x H1=>tyV K T x H1∧r x [] H1 Q
def tBM (K:PySem.W.Frag) (T:String) (r:V→List V→Hp→VK→Prop) (to:TE) (t:TA):TE:=fun σ H Q=>to σ H fun x H1=>tyV K T x H1∧t σ H1 fun xs H2=>r x xs H2 Q
variable {o e:Expr} {es:List Expr} {to:TE} {t:TA} {name:Str} {apos cpos:Pos} {T id:String} {r:V→List V→Hp→VK→Prop}
theorem zpz (pa:PlainAttrs T) (slot:Slot T name id) (hty:typeOf (.builtin id)=pure (.type "method_descriptor")) (hm:MtR X id r) (ho:PE X o to)
  (hbase:attributeBase o name X.env (eval o X.env)=eval o X.env:=by rfl) (hline:(apos.endLine==cpos.line)=true:=by rfl):PE X (.Call (.Attribute o name apos) [] [] cpos) (tBM0 X.K T r to):=by
 intro pins s σ H Q I h
 refine wpAny_Call_method0_late hbase hline (zo (ho pins s σ H _ I h) fun v s1 ⟨x,H1,I1,r1,ty,q1⟩=>?_)
 obtain ⟨h1,h2⟩:=zp2 I1 r1 ty
 exact ⟨T,id,pa,slot,hty,h1,h2,Calls.callWith_builtin rfl (PySem.evalArgs_none (hm pins s1 σ H1 x [] v [] Q I1 r1 .nil q1))⟩
theorem zvm (pa:PlainAttrs T) (slot:Slot T name id) (hty:typeOf (.builtin id)=pure (.type "method_descriptor")) (hm:MtR X id r) (ho:PE X o to) (ha:PA X (e::es) t)
  (hbase:attributeBase o name X.env (eval o X.env)=eval o X.env:=by rfl)
  (hfew:((backTo cpos (starEach (e::es) X.env)).all (fun x=> !x.1) && (backToKw cpos (keywordEach [] X.env)).all (fun x=>x.1.isSome)
   && decide ((e::es).length+([]:List Keyword).length+(if ([]:List Keyword).isEmpty then 0 else 1) < 30))=true:=by rfl)
  (hline:(apos.endLine==cpos.line)=true:=by rfl) (hs:starEach (e::es) X.env=(false,eval e X.env)::starEach es X.env:=by rfl) (hplain:(backTo cpos (starEach es X.env)).any (·.1)=false:=by rfl):
  PE X (.Call (.Attribute o name apos) (e::es) [] cpos) (tBM X.K T r to t):=by
 intro pins s σ H Q I h
 refine wpAny_Call_method_late hbase hfew hline rfl (zo (ho pins s σ H _ I h) fun v s1 ⟨x,H1,I1,r1,ty,q1⟩=>?_)
 obtain ⟨h1,h2⟩:=zp2 I1 r1 ty
 refine ⟨T,id,pa,slot,hty,h1,h2,?_⟩
 have hA:=ha cpos pins s1 σ H1 _ I1 q1
 rw [hs] at hA ⊢
 refine Calls.callWith_builtin (by show (false || (backTo cpos (starEach es X.env)).any (·.1))=false;rw [hplain] <;> rfl) (Calls.evalArgs_plain ?_)
 exact zo hA fun us s2 ⟨vs,H2,I2,r2,q2⟩=>hm pins s2 σ H2 x vs v us Q I2 r1 r2 q2
end
def MtM (X:Cx) (id:String) (r:V→List V→Hp→VK→Prop):Prop:=
 ∀(pins:List (Addr×Obj)) (s:Shared) (σ:St) (H:Hp) (x:V) (xs:List V) (v:Value) (us:List Value) (Q:VK),Inv X pins σ H s→RelV x v→Vals xs us→r x xs H Q→
  wpAny (model X.prog X.w) X.A (call (.builtin id) (v::us)) (EP X pins σ Q) X.xe s
theorem Vals.one: ∀{x:V} {us:List Value},Vals [x] us→∃u,us=[u]∧RelV x u
 | _,_,.cons r .nil=>⟨_,rfl,r⟩
theorem Vals.zero: ∀{us:List Value},Vals [] us→us=[]
 | _,.nil=>rfl
theorem Vals.dropLast {xs:List V} {us:List Value} (h:Vals xs us):Vals xs.dropLast us.dropLast:=by
 induction h with
 | nil=>exact .nil
 | cons r t ih=>
  cases t with
  | nil=>exact .nil
  | cons q t'=>exact .cons r ih
theorem Vals.rep {xs:List V} {us:List Value} (h:Vals xs us): ∀k:Nat,Vals (List.replicate k xs).flatten (List.replicate k us).flatten
 | 0=> .nil
 | k+1=>by
  rw [List.replicate_succ,List.replicate_succ,List.flatten_cons,List.flatten_cons]
  exact Vals.append h (Vals.rep h k)
theorem zkh {α:Type} (l:List α):l.eraseIdx (l.length - 1)=l.dropLast:=by
 induction l with
 | nil=>rfl
 | cons a r ih=>
  cases r with
  | nil=>rfl
  | cons b r=>
   have e:(a::b::r).length - 1=((b::r).length - 1)+1:=by
    have h1:(a::b::r).length=r.length+2:=rfl
    have h2:(b::r).length=r.length+1:=rfl
    omega
   rw [e,List.eraseIdx_cons_succ,ih]
   all_goals rfl
theorem zhp (its:List Value): ∀(k:Nat) (acc:List Value),
  List.foldl (fun x1 x2=>x1++x2) acc.toArray (List.replicate k its.toArray)=(acc++(List.replicate k its).flatten).toArray
 | 0,acc=>by simp
 | k+1,acc=>by
  have e:acc.toArray++its.toArray=(acc++its).toArray:=by simp
  have e2:(acc++its)++(List.replicate k its).flatten=acc++(List.replicate (k+1) its).flatten:=by
   rw [List.replicate_succ,List.flatten_cons,List.append_assoc]
  rw [←e2,←zhp its k (acc++its),←e,List.replicate_succ,List.foldl_cons]
section
variable {X:Cx} {pins:List (Addr×Obj)} {σ:St} {H:Hp} {s:Shared} {l b:Addr} {xs ys zs:List V}
theorem Inv.lset {its its':List Value} {n:Nat} {f:Array Value→Array Value} {t':Nat} (I:Inv X pins σ H s) (hH:H l=some (.lst xs))
  (e:s.heap.get? l=some {cls:= .type "list",data:= .seq its.toArray n}) (hf:f its.toArray=its'.toArray) (hv:Vals ys its') (hz:ys.length≤sizeLine):
  Inv X pins σ (zg H l (.lst ys)) {s with heap:=s.heap.update l (Obj.mapSeq f),toks:=t'}:=by
 have q:=PySem.IsL.update e f
 rw [hf] at q
 refine I.write (x:=l) (e:=l) (by rw [hH];exact trivial) (.inl rfl) (fun b' u hb hu=>(Heap.get?_update_other s.heap (Obj.mapSeq f) (Ne.symm hb)).trans hu) ⟨_,q⟩ ?_
 exact ⟨hz,its',_,hv,q⟩
theorem Inv.lnew {its:List Value} {t':Nat} (I:Inv X pins σ H s) (hv:Vals ys its) (hz:ys.length≤sizeLine):
  Inv X pins σ (zg H s.heap.objs.size (.lst ys)) {s with heap:=s.heap.push {cls:= .type "list",data:= .seq its.toArray},toks:=t'}:=
 I.laid (fun _ _ q=>Heap.get?_push_of_some _ q) (Nat.le_refl _) ⟨hz,its,0,hv,Heap.get?_push_size _ rfl⟩
theorem Inv.fresh (I:Inv X pins σ H s):H s.heap.objs.size=none:=I.hok.fresh (Nat.le_refl _)
theorem Inv.lstM (I:Inv X pins σ H s) (hH:H l=some (.lst xs)):xs.length≤sizeLine∧∃(its:List Value) (n:Nat),Vals xs its∧xs.length=its.length∧s.heap.get? l=some {cls:= .type "list",data:= .seq its.toArray n}:=by
 obtain ⟨z,its,n,r,e⟩:=I.hok l _ hH
 exact ⟨z,its,n,r,r.length,e⟩
theorem zo2 {n:Nat} (h:n≤sizeLine):Builtin.List.listTooLong n=false:=by
 unfold Builtin.List.listTooLong
 exact decide_eq_false (by omega)
end
section
variable {X:Cx}
def zlj:V→List V→Hp→VK→Prop:=fun x vs H Q=> ∃l xs y,x= .ref l∧vs=[y]∧H l=some (.lst xs)∧xs.length < sizeLine∧Q .non (zg H l (.lst (xs++[y])))
theorem zcn:MtM X "list.append" zlj:=by
 intro pins s σ H x vs v us Q I rx rv h
 obtain ⟨l,xs,y,rfl,rfl,hH,hz,q⟩:=h
 cases rx
 obtain ⟨u,rfl,ru⟩:=rv.one
 obtain ⟨z,its,n,r,hl,e⟩:=I.lstM hH
 refine call_meets F.slot_list_append ⟨_,e,rfl⟩ F.entry_list_append (F.args_list_append_2 _ _) (PySem.list_append l its.toArray n u (by rw [List.size_toArray];omega)) ⟨e,?_⟩
 refine ⟨.non,_,I.lset (its':=its++[u]) hH e (by simp) (r.append (.cons ru .nil)) ?_,rfl,q⟩
 rw [List.length_append,List.length_singleton]
 omega
def rPop:V→List V→Hp→VK→Prop:=fun x vs H Q=> ∃l xs y,x= .ref l∧vs=[]∧H l=some (.lst xs)∧xs[xs.length - 1]? =some y∧Q y (zg H l (.lst xs.dropLast))
theorem zp4:MtM X "list.pop" rPop:=by
 intro pins s σ H x vs v us Q I rx rv h
 obtain ⟨l,xs,y,rfl,rfl,hH,hy,q⟩:=h
 cases rx
 have hus:=rv.zero
 subst hus
 obtain ⟨z,its,n,r,hl,e⟩:=I.lstM hH
 obtain ⟨u,hu,ru⟩:=r.get hy
 have hy':its.toArray[its.toArray.size - 1]? =some u:=by
  show its.toArray[its.length - 1]? =some u
  rw [←Array.getElem?_toList,←hl]
  exact hu
 refine call_meets F.slot_list_pop ⟨_,e,rfl⟩ F.entry_list_pop (F.args_list_pop_1 _) (MeetsSeq.list_pop_last l its.toArray n u hy' (by rw [List.size_toArray];omega)) ⟨e,?_⟩
 refine ⟨y,_,I.lset (its':=its.dropLast) hH e ?_ r.dropLast ?_,ru,q⟩
 ·show its.toArray.eraseIdxIfInBounds (its.toArray.size - 1)=its.dropLast.toArray
  rw [List.size_toArray,List.eraseIdxIfInBounds_toArray,zkh]
 ·rw [List.length_dropLast]
  omega
def rCat:R2:=fun x y H Q=> ∃l b xs zs,x= .ref l∧y= .ref b∧H l=some (.lst xs)∧H b=some (.lst zs)∧xs.length+zs.length≤sizeLine∧∀p,H p=none→Q (.ref p) (zg H p (.lst (xs++zs)))
theorem zsa:OpR X (binaryOp .Add) rCat:=by
 intro pins s σ H x y v u Q I rx ry h
 obtain ⟨l,b,xs,zs,rfl,rfl,hH,hB,hz,q⟩:=h
 cases rx
 cases ry
 obtain ⟨z,its,n,r,hl,e⟩:=I.lstM hH
 obtain ⟨z2,its2,n2,r2,hl2,e2⟩:=I.lstM hB
 refine PySem.P.add_list e e2 ?_ (by rw [List.size_toArray,List.size_toArray];omega)
 have ea:its.toArray++its2.toArray=(its++its2).toArray:=by simp
 rw [ea]
 exact ⟨.ref _,_,I.lnew (t':=s.toks) (r.append r2) (by rw [List.length_append];omega),rfl,q _ I.fresh⟩
def rRep:R2:=fun x y H Q=> ∃l k xs,x= .ref l∧y= .int k∧H l=some (.lst xs)∧ -(2 ^ 63)≤k∧k < 2 ^ 63∧xs.length*k.toNat≤sizeLine∧
 ∀p,H p=none→Q (.ref p) (zg H p (.lst (List.replicate k.toNat xs).flatten))
theorem zqc {α:Type} (xs:List α) (k:Nat):(List.replicate k xs).flatten.length=k*xs.length:=by
 induction k with
 | zero=>simp
 | succ k ih=>rw [List.replicate_succ,List.flatten_cons,List.length_append,ih,Nat.succ_mul,Nat.add_comm]
theorem zul:OpR X (binaryOp .Mult) rRep:=by
 intro pins s σ H x y v u Q I rx ry h
 obtain ⟨l,k,xs,rfl,rfl,hH,h1,h2,hz,q⟩:=h
 cases rx
 obtain ⟨t,rfl⟩:=ry
 obtain ⟨z,its,n,r,hl,e⟩:=I.lstM hH
 have hlen:its.toArray.size*k.toNat≤sizeLine:=by rw [List.size_toArray,←hl];exact hz
 have hcap: ¬its.toArray.size*k.toNat > (2 ^ 63 - 1) / 8:=by
  have:(sizeLine:Nat)≤(2 ^ 63 - 1) / 8:=by decide
  omega
 have hfit: ¬(!Builtin.List.listFitsIndex k)=true:=by
  rw [fitsIndex_both h1 h2]
  exact Bool.false_ne_true
 have hlong: ¬Builtin.List.listTooLong (its.toArray.size*k.toNat)=true:=by
  rw [zo2 hlen]
  exact Bool.false_ne_true
 have hnew:List.foldl (fun x1 x2=>x1++x2) #[] (List.replicate (if its.toArray.isEmpty=true then 0 else k.toNat) its.toArray)=(List.replicate k.toNat its).flatten.toArray:=by
  have f0: ∀m:Nat,List.foldl (fun x1 x2=>x1++x2) #[] (List.replicate m its.toArray)=(List.replicate m its).flatten.toArray:=fun m=>by
   have:=zhp its m []
   rw [List.nil_append] at this
   exact this
  rw [f0]
  cases its with
  | nil=>simp
  | cons a r'=>rw [if_neg (by simp)]
 refine wpAny_binaryOp_repeat_ref (T:="list") (U:="int") (by decide) ⟨_,e,rfl⟩ (fun s'=>typeIs_int s' k t) noFill_list_mul F.fills_int_mul F.slot_int_rmul repeat_list F.slot_int_index.lookup
  (call_meets F.slot_int_rmul (typeIs_int s k t) F.entry_int_rmul (F.args_int_rmul_2 _ _) (int___rmul___int_list k t l its.toArray n)
   ⟨e,rfl,⟨_,e,rfl⟩,call_meets F.slot_list_mul ⟨_,e,rfl⟩ F.entry_list_mul (F.args_list_mul_2 _ _) (AutoListH.list___mul___list_int_3 l its.toArray n k t hfit hcap hlong) ⟨e,?_⟩⟩)
 rw [hnew]
 exact ⟨.ref _,_,I.lnew (t':=s.toks) (r.rep k.toNat) (by rw [zqc,Nat.mul_comm];exact hz),rfl,q _ I.fresh⟩
end
section
variable {prog:Program} {w:World} {A:Around} {E:Value→Shared→Prop} {s:Shared}
set_option maxRecDepth 100000 in
end
end L2
namespace Att
open PySem PySem.W PySem.Calls PyProof.Rows
theorem zf0 {P:Params} {h:Heap}: ∀(ns:List Int) (vs:List Value),WellAll P h vs (ns.map WData.int)→IntsAre vs ns:=by
 intro ns
 induction ns with
 | nil=>
  intro vs w
  rw [List.map_nil] at w
  cases w
  exact .nil
 | cons n ns ih=>
  intro vs w
  rw [List.map_cons] at w
  cases w with
  | cons a b=>
   cases a
   exact .cons _ _ (ih _ b)
theorem zk6 {l:OpenLaw} {n:Nat} (hn:l.most=some n) {P:Params} {h:Heap} {args:List WData} {vals:List Value}
  (hpre:l.row.toRowW.claim.pre args=true) (hwl:WellAll P h vals args):
  ∃a vs ns,vals=[Value.ref a]∧args=[WData.list (ns.map WData.int)]∧h.get? a=some {cls:= .type "list",data:= .seq vs.toArray}∧IntsAre vs ns∧ns.length≤n:=by
 have hsh:WShape.hasAll [] args [.list .int]=true:=(pre_splitW hpre).1
 have hc:l.pre.holds [] {args:=args}=true:=(pre_splitW hpre).2
 obtain ⟨d,r,rfl,h1,h2⟩:=hasAllW_cons hsh
 obtain rfl:=hasAllW_nil h2
 obtain ⟨xs,rfl,h3⟩:=hasW_list h1
 obtain ⟨ns,rfl⟩:=items_int h3
 have hlen:ns.length≤n:=by
  unfold OpenLaw.pre at hc
  have h4:(WTm.not (.lt (.lit (.int (n:Int))) (.len (.arg 0)))).holds [] {args:=[.list (ns.map .int)]}=true:=by
   have h4:=(holds_andW hc).1
   rw [hn] at h4
   exact h4
  have h5:=condW_of h4 (w_not (w_lt w_lit (w_len_list (w_arg rfl))))
  rw [List.length_map] at h5
  refine Nat.le_of_not_lt fun q=>?_
  have q':(n:Int) < ((ns.length:Nat):Int):=by omega
  first
   | (rw [decide_eq_true q'] at h5;exact absurd h5 (by decide))
   | (simp at h5;omega)
 cases hwl with
 | cons w1 w2=>
  cases w2
  cases w1 with
  | list ho hall=>exact ⟨_,_,ns,rfl,rfl,ho,zf0 ns _ hall,hlen⟩
theorem znn (l:OpenLaw) (args:List WData):l.row.toRowW.claim.post args (.bool true) args=true:=
 postW_of (r:=l.row.toRowW) (X:=(true==true))
  (show WShape.has [] (.bool true) .bool=true by first | rfl | decide | simp [WShape.has,WShape.arms,WShape.armsAll])
  (show (WTm.eq .res (.lit (.bool true))).value [] {args:=args,res:=some (.bool true),after:=args}=some (.bool (true==true)) from w_eq_bool (w_res rfl) w_lit) rfl
theorem attach_call {l:OpenLaw} {n:Nat} {q:Program} {loose:List Str} {XP:(Str→Option Value)→Heap→Prop} {YP:World→Heap→Prop} {d:DefRec}
  (hn:l.most=some n) (hdf:d.params.defaults=[])
  (call: ∀(w:World) (s₀ s₁:Shared) (mg mb:Str→Option Value) (fa:Addr) (o:Obj) (pm cd doc:Value) (a:Addr) (vs:List Value) (ns:List Int),
   Ground q loose [] XP w s₀ mg mb s₁.heap→YP w s₁.heap→
   s₁.heap.get? fa=some o→o.data= .func (docDef d.name d.params d.body d.scope pm cd doc)→s₁.heap.CodeRec cd d.name→mg d.name=some (.ref fa)→
   s₁.heap.get? a=some {cls:= .type "list",data:= .seq vs.toArray}→IntsAre vs ns→ns.length≤n→s₁.gens= #[]→
   codeAny (model l.prog w) callerA (.call (.ref fa) ⟨[.ref a],[]⟩) (fun r s'=>r= .ok (.ret (.bool true))∧OldK s₁.heap s'.heap∧s'.os=s₁.os∧AllBare s'.gens) s₁):
  WalkO q loose XP YP l.row.toRowW d [] (fun f vs=>PySem.call f vs):=by
 intro w s₀ s₁ mg mb G Y fa o pm cd doc dV kV ho hd hcd hD hmg hg args vals as hpre hlay hrd hwl hlo
 obtain rfl:dV= .none:=Dflts.none hD hdf
 obtain rfl:kV= .none:=Dflts.noKw hD
 obtain ⟨a,vs,ns,rfl,rfl,hobj,hints,hlen⟩:=zk6 hn hpre hwl
 refine enter_call (codeAny_mono (call w s₀ s₁ mg mb fa o pm cd doc a vs ns G Y ho (fd_plain hd) hcd hmg hobj hints hlen hg) fun r s' hq=>?_)
 obtain ⟨rfl,h2,h3,h4⟩:=hq
 exact ⟨.inl ⟨.bool true,.bool true,[],rfl,fun _=>rfl,.bool true,znn l _,fun _=>⟨List.Pairwise.nil,fun _ hm=>(nomatch hm)⟩⟩,h2,h3,h4⟩
end Att
namespace L2
open PySem PySem.Spec PyProof.Rows
theorem zho: ∀{vs:List Value} {ns:List Int},IntsAre vs ns→Vals (ns.map V.int) vs
 | _,_,.nil=> .nil
 | _,_,.cons n t h=> .cons ⟨t,rfl⟩ (zho h)
def zdf (s:Stmt) (j:Nat):Stmt:=match s with
 | .ClassDef _ _ _ body _ _ _ _ _ _ _=>body.getD j (.Pass ⟨0,0,0,0⟩)
 | _=> .Pass ⟨0,0,0,0⟩
def zcu (s:Stmt):Arguments:=match s with
 | .FunctionDef _ a _ _ _ _ _ _ _ _=>a
 | _=>{posonlyargs:=[],args:=[],vararg:=none,kwonlyargs:=[],kw_defaults:=[],kwarg:=none,defaults:=[]}
def yX (s:Stmt):List Stmt:=match s with
 | .FunctionDef _ _ b _ _ _ _ _ _ _=>b
 | _=>[]
def zw (s:Stmt):Scope:=match s with
 | .FunctionDef _ _ _ _ _ _ sc _ _ _=>sc
 | _=>{kind:= .function,names:=[],isGenerator:=false,isCoroutine:=false}
abbrev CX0:yu:=fun _ _ _ _ _ _=>False
abbrev E0:XK:=fun _ _ _=>False
structure Fun (K:PySem.W.Frag) (x qual:Str) (st:Stmt) (f:Addr) (fd:FuncData):Prop where
 ex: ∃(oc:Value) (od:Option Addr) (kV doc pm:Value) (an:Option Addr) (cdv ct:Value) (osl:Array (Option Value)),
  fd=PySem.W.fnOf x qual (zcu st) (yX st) (zw st) .none kV doc pm an cdv ct∧K.lookup f=some ⟨oc,od,.func fd,osl⟩∧PySem.W.codeIn K cdv qual=true
 kp:PySem.W.keepIn K (.ref f)=true
section
variable {P:Program} {w:World} {K:PySem.W.Frag} {mg:Str→Option Value} {base:Heap}
theorem Fun.binds {x qual:Str} {st:Stmt} {f:Addr} {fd:FuncData} {ps:List Str} (F:Fun K x qual st f fd)
  (h: ∀(kV doc pm:Value) (an:Option Addr) (cdv ct:Value) (us:List Value),us.length=ps.length→bindArgs (PySem.W.fnOf x qual (zcu st) (yX st) (zw st) .none kV doc pm an cdv ct) ⟨us,[]⟩=pure (ps.zip us)):Binds K fd ps []:=by
 obtain ⟨oc,od,kV,doc,pm,an,cdv,ct,osl,rfl,lk,hcd⟩:=F.ex
 exact .all (h kV doc pm an cdv ct)
end
theorem zm5 {n:Nat} (h:n≤1000):n < sizeLine:=Nat.lt_of_le_of_lt h (by decide)
section
variable {X:Cx}
theorem pv (i:Nat) {x:Str} {pos:Pos} (hN:X.N[i]? =some x:=by rfl) (hv:Vis X.env.scope x:=by first | exact Or.inl rfl | exact Or.inr (Or.inl rfl) | exact Or.inr (Or.inr rfl)) (hd:(x==("__debug__" :Str))=false:=by decide)
 (hcd:(x==("__classdict__" :Str))=false:=by decide):PE X (.Name x pos) (tVar i):=zk7 hN hv hd hcd
end
end L2
set_option maxHeartbeats 0
namespace L2
open PySem PySem.Spec PyProof.Rows
def qg (X:Cx) (N:List Str) (scope:Scope) (cl:List (Str×Addr)) (C:Addr) (s:Shared) (H:Hp) (ex:List Addr):Cx where
 prog:=X.prog
 w:=X.w
 K:=X.K
 mg:=X.mg
 base:=X.base
 A:=X.A
 N:=N
 s₀:=s
 H₀:=H
 env:=compEnvC scope cl C X.env
 outer:=X.stack
 stack:=X.stack
 ex:=ex
 fn:=fun _=>false
 calm:=X.calm
 pn:=[]
 xe:=fun _ _=>False
theorem zeo {env:Env}: ∀(names:List (Str×NameKind)) (acc:List (Str×Addr)),(∀y∈names,y.2= .free→∃c,env.cells.lookup y.1=some c)→
  ∃cl,(forIn names acc (fun x cs=>match x with | (name,kind)=>if (kind==NameKind.free)=true then (do let a ←cellOf env name;pure (ForInStep.yield ((name,a)::cs))) else pure (ForInStep.yield cs)):Sem (List (Str×Addr)))=pure cl∧
   (∀p∈cl,p∈acc∨env.cells.lookup p.1=some p.2)∧(∀y∈names,y.2= .free→∃c,(y.1,c)∈cl)∧∀p∈acc,p∈cl
 | [],acc,_=>⟨acc,by rw [List.forIn_nil],fun p hp=> .inl hp,fun _ h=>(nomatch h),fun _ h=>h⟩
 | (n,k)::r,acc,h=>by
  rw [List.forIn_cons]
  by_cases hk:k= .free
  ·subst hk
   obtain ⟨c,hc⟩:=h (n,.free) List.mem_cons_self rfl
   obtain ⟨cl,e,h1,h2,h3⟩:=zeo r ((n,c)::acc) fun y hy=>h y (List.mem_cons_of_mem _ hy)
   have ec:cellOf env n=pure c:=by unfold cellOf;rw [hc]
   refine ⟨cl,?_,fun p hp=>?_,fun y hy hf=>?_,fun p hp=>h3 p (List.mem_cons_of_mem _ hp)⟩
   ·simp only [beq_self_eq_true,if_true,ec,pure_bind]
    exact e
   ·rcases h1 p hp with q | q
    ·rcases List.mem_cons.mp q with rfl | q
     ·exact .inr hc
     ·exact .inl q
    ·exact .inr q
   ·rcases List.mem_cons.mp hy with rfl | hy
    ·exact ⟨c,h3 _ List.mem_cons_self⟩
    ·exact h2 y hy hf
  ·obtain ⟨cl,e,h1,h2,h3⟩:=zeo r acc fun y hy=>h y (List.mem_cons_of_mem _ hy)
   have hb:(k==NameKind.free)=false:=by simpa using hk
   refine ⟨cl,?_,h1,fun y hy hf=>?_,h3⟩
   ·simp only [hb,Bool.false_eq_true,if_false,pure_bind]
    exact e
   ·rcases List.mem_cons.mp hy with rfl | hy
    ·exact absurd hf hk
    ·exact h2 y hy hf
theorem zc7 {α:Type}: ∀{l:List (Str×α)} {x:Str} {c:α},(x,c)∈l→∃d,l.lookup x=some d
 | (y,e)::r,x,c,h=>by
  rw [List.lookup_cons]
  cases hb:x==y with
  | true=>exact ⟨e,rfl⟩
  | false=>
   rcases List.mem_cons.mp h with q | q
   ·cases q;simp at hb
   ·exact zc7 q
theorem zhe {scope:Scope} {env:Env} (h: ∀y∈scope.names,y.2= .free→∃c,env.cells.lookup y.1=some c):
  ∃cl,closureFor scope env=pure cl∧(∀x c,cl.lookup x=some c→env.cells.lookup x=some c)∧∀y∈scope.names,y.2= .free→∃c,cl.lookup y.1=some c:=by
 obtain ⟨cl,e,h1,h2,_⟩:=zeo (env:=env) scope.names [] h
 refine ⟨cl,?_,fun x c q=>?_,fun y hy hf=>?_⟩
 ·simp only [closureFor]
  rw [e]
  rfl
 ·rcases h1 _ (PySem.mem_of_lookup q) with z | z
  ·cases z
  ·exact z
 ·obtain ⟨c,hc⟩:=h2 y hy hf
  exact zc7 hc
section
variable {prog:Program} {w:World} {A:Around} {R:Result→Shared→Prop} {s:Shared}
theorem zla {elt target iter:Expr} {ifs:List Expr} {scope:Scope} {pos:Pos} {it acc:Value} {env:Env} (I:Nat→Shared→Prop)
  (turn: ∀n s,I n s→wpAny (model prog w) A (pyNext it) (fun r s₁=>match r with
   | none=>R (.ok .next) s₁
   | some v=>wpAny (model prog w) A (letOwnedTupleGo target it v) (fun _ s₁'=>wpAny (model prog w) A (assign target env v) (fun _ s₂=>
    wpAny (model prog w) A (forIn ifs true fun c r=>if r=true then do let ok ←isTrue c env (eval c env);pure (ForInStep.yield ok) else pure (ForInStep.yield r)) (fun ok s₃=>
     if ok=true then wpAny (model prog w) A (eval elt env) (fun x s₄=>
      wpAny (model prog w) A (call (.builtin "list.append") [acc,x]) (fun _ s₅=> ∃m,m < n∧I m s₅) (fun _ _=>False) s₄) (fun _ _=>False) s₃
     else ∃m,m < n∧I m s₃) (fun _ _=>False) s₂) (fun _ _=>False) s₁') (fun _ _=>False) s₁) (fun _ _=>False) s)
  (n:Nat) (h:I n s):codeAny (model prog w) A (.compLoop (.ListComp elt [⟨target,iter,ifs,0⟩] scope pos) 0 it acc env) R s:=by
 refine codeAny_loop rfl I (fun n s hI=>?_) n h
 show wpAny _ A ((compTurn (.ListComp elt [⟨target,iter,ifs,0⟩] scope pos) 0 it acc env).onRaise (fun x=>do noteFrame x env;theTreesLotGoes x)) _ _ s
 refine wpAny_noted ?_
 rw [compTurn_list]
 refine wpAny_bind (wpAny_standAt (wpAny_bind (wpAny_mono (turn n s hI) (fun r s₁ h₁=>?_) fun _ _ f=>f.elim)))
 cases r with
 | none=>exact wpAny_pure h₁
 | some v=>
  refine wpAny_bind (wpAny_mono h₁ (fun _ s₁' h₁'=>?_) fun _ _ f=>f.elim)
  refine wpAny_bind (wpAny_mono h₁' (fun _ s₂ h₂=>wpAny_bind (wpAny_mono h₂ (fun ok s₃ h₃=>?_) fun _ _ f=>f.elim)) fun _ _ f=>f.elim)
  cases ok with
  | false=>exact wpAny_pure ⟨rfl,h₃⟩
  | true=>
   exact wpAny_bind (wpAny_bind (wpAny_mono h₃ (fun x s₄ h₄=>wpAny_bind (wpAny_mono h₄ (fun _ s₅ h₅=>wpAny_pure (wpAny_pure ⟨rfl,h₅⟩)) fun _ _ f=>f.elim)) fun _ _ f=>f.elim))
end
def cst (k:Nat) (fr:List Nat) (σ:St):St:=List.replicate k none++fr.map fun j=>(σ[j]?).join
structure CompScope (X:Cx) (loc free:List Str) (fr:List Nat) (scope:Scope):Prop where
 kind:scope.kind= .function
 cell: ∀y∈scope.names,y.2≠ .cell
 names: ∀y∈scope.names,y.2= .local→scope.names.lookup y.1=some .local
 frees: ∀y∈scope.names,y.2= .free→X.env.kindOf y.1=some .cell∨X.env.kindOf y.1=some .free
 at_: ∀(i j:Nat) (x:Str),fr[i]? =some j→free[i]? =some x→X.N[j]? =some x∧scope.names.lookup x=some .free
 len:fr.length=free.length
theorem zb4 {env:Env}: ∀{names:List (Str×NameKind)} {x:Str},(∀y∈names,y.2≠ .cell)→
    ((names.map fun (n,k)=>if (k==NameKind.free && env.scope.kind== .function && env.kindOf n==some .cell) then (n,NameKind.cell) else (n,k)).lookup x=some .cell∨
     (names.map fun (n,k)=>if (k==NameKind.free && env.scope.kind== .function && env.kindOf n==some .cell) then (n,NameKind.cell) else (n,k)).lookup x=some .free)→names.lookup x=some .free
  | [],_,_,h=>by simp at h
  | (n,k)::r,x,hc,h=>by
    have ih:= @zb4 env r x fun y hy=>hc y (List.mem_cons_of_mem _ hy)
    rw [List.map_cons] at h
    rw [List.lookup_cons]
    cases hx:x==n with
    | true=>
      have hk:k≠ .cell:=hc (n,k) List.mem_cons_self
      dsimp only at h ⊢
      by_cases hb:(k==NameKind.free && env.scope.kind== .function && env.kindOf n==some .cell)=true
      · have:k= .free:=by
          rw [Bool.and_eq_true,Bool.and_eq_true] at hb
          simpa using hb.1.1
        rw [this]
      · rw [if_neg hb,List.lookup_cons,hx] at h
        rcases h with h | h
        · have:k= .cell:=Option.some.inj h
          exact absurd this hk
        · exact h
    | false=>
      dsimp only at h ⊢
      refine ih ?_
      by_cases hb:(k==NameKind.free && env.scope.kind== .function && env.kindOf n==some .cell)=true
      · rw [if_pos hb,List.lookup_cons,hx] at h;exact h
      · rw [if_neg hb,List.lookup_cons,hx] at h;exact h
theorem zb0 {env:Env}: ∀{names:List (Str×NameKind)} {x:Str},names.lookup x=some .free→
    ((names.map fun (n,k)=>if (k==NameKind.free && env.scope.kind== .function && env.kindOf n==some .cell) then (n,NameKind.cell) else (n,k)).lookup x=some .cell∨
     (names.map fun (n,k)=>if (k==NameKind.free && env.scope.kind== .function && env.kindOf n==some .cell) then (n,NameKind.cell) else (n,k)).lookup x=some .free)
  | [],_,h=>by simp at h
  | (n,k)::r,x,h=>by
    have ih:= @zb0 env r x
    rw [List.map_cons]
    rw [List.lookup_cons] at h
    cases hx:x==n with
    | true=>
      rw [hx] at h
      have hk:k= .free:=Option.some.inj h
      subst hk
      dsimp only
      by_cases hb:(NameKind.free==NameKind.free && env.scope.kind== .function && env.kindOf n==some .cell)=true
      · rw [if_pos hb,List.lookup_cons,hx];exact .inl rfl
      · rw [if_neg hb,List.lookup_cons,hx];exact .inr rfl
    | false=>
      rw [hx] at h
      have:=ih h
      dsimp only
      by_cases hb:(k==NameKind.free && env.scope.kind== .function && env.kindOf n==some .cell)=true
      · rw [if_pos hb,List.lookup_cons,hx];exact this
      · rw [if_neg hb,List.lookup_cons,hx];exact this
section
variable {X:Cx} {pins:List (Addr×Obj)} {σ:St} {H:Hp} {s:Shared}
theorem znp {loc free:List Str} {fr:List Nat} {scope:Scope} {cl:List (Str×Addr)} {h1:Heap} {t1:Nat} {fp:List Addr} (S:CompScope X loc free fr scope) (I:Inv X pins σ H s)
  (hc1: ∀x c,cl.lookup x=some c→X.env.cells.lookup x=some c) (hc2: ∀y∈scope.names,y.2= .free→∃c,cl.lookup y.1=some c)
  (hns:h1.Ns s.heap.objs.size (fun _=>none)) (hk: ∀b o,s.heap.get? b=some o→h1.get? b=some o)
  (hfp: ∀b∈fp,yj X pins H b) (hfo: ∀b∈fp,∃o,s.heap.get? b=some o):
  Inv (qg X (loc++free) scope cl s.heap.objs.size s H fp) [] (cst loc.length fr σ) H {s with heap:=h1,toks:=t1}:=by
 have fpb: ∀b∈fp,b < s.heap.objs.size:=fun b hb=>let ⟨o,e⟩:=hfo b hb;Heap.lt_size e
 refine ⟨⟨I.ok.mod,S.kind,I.ok.glob,I.ok.blt,Nat.le_refl _,fun x y c e1 e2=>I.ok.inj x y c (hc1 _ _ e1) (hc1 _ _ e2),fun x hx=>?_,fun x c f=>(nomatch f),I.ok.hd,I.ok.frames,.inl rfl,fun b hb=>?_,I.bs,Nat.le_trans I.ok.bsz I.sz,fun b o e hb=>?_,fun b hb z=>?_,I.stack,I.stkFree⟩,
  rfl,I.bare,Un.kept hk,⟨_,hns,fun i x v e1 e2 e3=>?_⟩,fun x c e=>?_,I.hok.fresh (Nat.le_refl _),fun x c e=>I.freeC x c (hc1 x c e),fun p hp=>absurd (show p∈([]:List (Addr×Obj)) from hp) (by simp),I.hok.kept hk,?_⟩
 ·have q:scope.names.lookup x=some .free:=zb4 S.cell hx
  exact hc2 (x,.free) (PySem.mem_of_lookup q) rfl
 ·exact ⟨Nat.ne_of_lt (fpb b hb),fun x c e=>(hfp b hb).2.2.2.2.1 x c (hc1 x c e)⟩
 ·rcases (hfp b hb).2.2.2.1 with z | z
  ·exact I.ok.noex b o e z
  ·exact absurd (Nat.lt_of_lt_of_le (Heap.lt_size e) (Nat.le_trans I.ok.bsz z)) (Nat.lt_irrefl _)
 ·rcases List.mem_cons.mp (I.stkSub b z) with e | e
  ·exact (hfp b hb).2.1 e
  ·exact (hfp b hb).2.2.1 e
 ·have e1':(loc++free)[i]? =some x:=e1
  unfold cst at e2
  by_cases hi:i < loc.length
  ·rw [List.getElem?_append_left (by simpa using hi),List.getElem?_replicate] at e2
   rw [if_pos hi] at e2
   cases e2
  ·have hi':loc.length≤i:=Nat.le_of_not_lt hi
   rw [List.getElem?_append_right (by simpa using hi'),List.length_replicate,List.getElem?_map] at e2
   rw [List.getElem?_append_right hi'] at e1'
   cases hj:fr[i - loc.length]? with
   | none=>rw [hj] at e2;cases e2
   | some j=>
    rw [hj] at e2
    have e2':(σ[j]?).join=some v:=Option.some.inj e2
    obtain ⟨n1,n2⟩:=S.at_ _ j x hj e1'
    have e4:σ[j]? =some (some v):=by
     cases q:σ[j]? with
     | none=>rw [q] at e2';cases e2'
     | some z=>rw [q] at e2';exact congrArg some e2'
    have kf:=S.frees (x,.free) (PySem.mem_of_lookup n2) rfl
    obtain ⟨m,hn,hl⟩:=I.loc
    obtain ⟨u,r,l⟩:=hl j x v n1 e4 (kf.elim (fun z=> .inr (.inl z)) fun z=> .inr (.inr z))
    refine ⟨u,r,.inr ⟨zb0 n2,?_⟩⟩
    obtain ⟨c,hc⟩:=hc2 (x,.free) (PySem.mem_of_lookup n2) rfl
    have hcx:=hc1 x c hc
    rcases l with ⟨hk',_⟩ | ⟨_,c',hc',hcell⟩
    ·rcases kf with z | z <;> (rw [hk'] at z;cases z)
    ·rw [hcx] at hc'
     cases hc'
     obtain ⟨o,ho,hd⟩:=hcell
     exact ⟨c,hc,o,hk _ _ ho,hd⟩
 ·obtain ⟨v,o,ho,hd⟩:=I.cell x c (hc1 x c e)
  exact ⟨v,o,hk _ _ ho,hd⟩
 ·show (cst loc.length fr σ).length=(loc++free).length
  unfold cst
  rw [List.length_append,List.length_replicate,List.length_map,List.length_append,S.len]
abbrev zuw (J:It) (g:TG) (tc:TT) (te:TE) (σ0:St) (H:Hp) (Q:VK) (D:Addr):Prop:=
 ∃W:Nat→Nat→List V→St→Hp→Prop,(∃m,W 0 m [] σ0 (zg H D (.lst [])))∧∀i m acc σ' H',W i m acc σ' H'→H' D=some (.lst acc)∧
  ((J.stop i H'∧Q (.ref D) H')∨(J.go i H'∧∃N:List V→St→Hp→Prop,(∀acc' σ3 H5,N acc' σ3 H5→∃m',m' < m∧W (i+1) m' acc' σ3 H5)∧∀x H2,J.yld i H' x H2→g x σ' H2 fun σ3 H3=>tc σ3 H3 fun b H4=>
   if b=true then te σ3 H4 fun v H5=>H5 D=some (.lst acc)∧acc.length < sizeLine∧N (acc++[v]) σ3 (zg H5 D (.lst (acc++[v])))
   else N acc σ3 H4))
def zqf (wi:TI) (k:Nat) (fr:List Nat) (g:TG) (tc:TT) (te:TE):TE:=fun σ H Q=>wi σ H fun J H1=> ∀D,H1 D=none→zuw J g tc te (cst k fr σ) H1 Q D
def zu0:TT:=fun _ H Q=>Q true H
def PTs (X:Cx) (ifs:List Expr) (t:TT):Prop:=
 ∀(pins:List (Addr×Obj)) (s:Shared) (σ:St) (H:Hp) (Q:Bool→Hp→Prop),Inv X pins σ H s→t σ H Q→
  wpAny (model X.prog X.w) X.A (forIn ifs true fun c r=>if r=true then do let ok ←isTrue c X.env (eval c X.env);pure (ForInStep.yield ok) else pure (ForInStep.yield r)) (TP X pins σ Q) X.xe s
theorem zrw:PTs X [] zu0:=fun pins s σ H Q I h=>wpAny_tests_nil ⟨H,I,h⟩
structure CompEnd (X:Cx) (pins:List (Addr×Obj)) (σ:St) (Q:VK) (D C:Addr) (s6:Shared):Prop where
 inv: ∃H5,Inv X pins σ H5 s6∧H5 C=none∧Q (.ref D) H5
 ns: ∃m,s6.heap.Ns C m
 neL:C≠X.env.locals
 nfs:C∉X.fs
 new:X.s₀.heap.objs.size≤C
 cel: ∀x c,X.env.cells.lookup x=some c→c≠C
 pin: ∀p∈X.pn++pins,p.1≠C
theorem zpb {elt tg iter:Expr} {ifs:List Expr} {loc free:List Str} {fr:List Nat} {scope:Scope} {pos:Pos} {wi:TI} {g:TG} {tc:TT} {te:TE} (hc:X.calm=true) (S:CompScope X loc free fr scope) (hi:PI X tg iter wi)
  (hg: ∀cl C s H ex,PG (qg X (loc++free) scope cl C s H ex) tg g) (ht: ∀cl C s H ex,PTs (qg X (loc++free) scope cl C s H ex) ifs tc) (he: ∀cl C s H ex,PE (qg X (loc++free) scope cl C s H ex) elt te)
  (I:Inv X pins σ H s) {Q:VK} (h:zqf wi loc.length fr g tc te σ H Q) {cl:List (Str×Addr)} (hc1: ∀x c,cl.lookup x=some c→X.env.cells.lookup x=some c) (hc2: ∀y∈scope.names,y.2= .free→∃c,cl.lookup y.1=some c)
  {RR:Value→Addr→Result→Shared→Prop} (hRR: ∀D C s6,CompEnd X pins σ Q D C s6→RR (.ref D) C (.ok .next) s6):
  wpAny (model X.prog X.w) X.A (eval iter X.env) (fun x s1=>wpAny (model X.prog X.w) X.A (pyIter x) (fun it s2=>wpAny (model X.prog X.w) X.A (newList []) (fun acc s3=>
   wpAny (model X.prog X.w) X.A (newFunctionEnv scope X.env.globals cl [] X.env.qual none .none (some X.env)) (fun cenv s4=>
    codeAny (model X.prog X.w) X.A (.compStart (.ListComp elt [⟨tg,iter,ifs,0⟩] scope pos) 0 it acc {cenv with scope:=relabel scope X.env}) (RR acc cenv.locals) s4) X.xe s3) X.xe s2) X.xe s1) X.xe s:=by
 refine zo (hi pins s σ H _ I h) fun v s1 h1=>zo h1 fun itv s2 h2=>?_
 obtain ⟨it,fp,tn,J,H2,e,I2,T,st2,f2,q2⟩:=h2
 subst e
 have hD:H2 s2.heap.objs.size=none:=I2.hok.fresh (Nat.le_refl _)
 obtain ⟨W,⟨m0,w0⟩,turn⟩:=q2 s2.heap.objs.size hD
 refine wpAny_newObj_type ?_
 generalize hs3:({s2 with heap:=s2.heap.push {cls:= .type "list",dict:=none,data:= .seq ([]:List Value).toArray}}:Shared)=s3
 have I3:Inv X pins σ (zg H2 s2.heap.objs.size (.lst [])) s3:=by
  rw [←hs3]
  exact I2.lnew (its:=[]) (t':=s2.toks) .nil (Nat.zero_le _)
 have k23: ∀b o,s2.heap.get? b=some o→s3.heap.get? b=some o:=fun b o q=>by rw [←hs3];exact Heap.get?_push_of_some _ q
 have f3: ∀b∈fp,yj X pins (zg H2 s2.heap.objs.size (.lst [])) b:=fun b hb=>by
  obtain ⟨o,e,_⟩:=T.obj _ _ st2 b hb
  exact ⟨by rw [zl (Nat.ne_of_lt (Heap.lt_size e))];exact (f2 b hb).1,(f2 b hb).2⟩
 have o3: ∀b∈fp,∃o,s3.heap.get? b=some o:=fun b hb=>let ⟨o,e,_⟩:=T.obj _ _ st2 b hb;⟨o,k23 b o e⟩
 have st3:tn 0 s3.heap:=T.keep _ _ _ st2 fun b _ o e=>k23 b o e
 refine wpAny_newFunctionEnv S.cell (by intro y hy;simp at hy) (fun h4 hns hsb=>?_) S.kind
 try dsimp only at hns hsb ⊢
 have k34: ∀b o,s3.heap.get? b=some o→h4.get? b=some o:=fun b o q=>hsb.extBut b o (Nat.ne_of_lt (Heap.lt_size q)) (Heap.get?_push_of_some _ q)
 have I4:=znp (t1:=s3.toks+([]:List (Str×Value)).length) S I3 hc1 hc2 hns k34 f3 o3
 have hgC:=hg cl s3.heap.objs.size s3 (zg H2 s2.heap.objs.size (.lst [])) fp
 have htC:=ht cl s3.heap.objs.size s3 (zg H2 s2.heap.objs.size (.lst [])) fp
 have heC:=he cl s3.heap.objs.size s3 (zg H2 s2.heap.objs.size (.lst [])) fp
 have st4:tn 0 h4:=T.keep _ _ _ st3 fun b _ o e=>k34 b o e
 generalize hY:qg X (loc++free) scope cl s3.heap.objs.size s3 (zg H2 s2.heap.objs.size (.lst [])) fp=Y at I4 hgC htC heC
 have fY: ∀{H':Hp},(∀b∈fp,H' b=none)→∀b∈fp,yj Y [] H' b:=fun hn b hb=>by
  subst hY
  refine ⟨hn b hb,?_,fun z=>?_,.inl hb,fun x c e=>(f3 b hb).2.2.2.2.1 x c (hc1 x c e),fun p hp=>absurd (show p∈([]:List (Addr×Obj)) from hp) (by simp)⟩
  ·obtain ⟨o,e⟩:=o3 b hb
   exact Nat.ne_of_lt (Heap.lt_size e)
  ·rcases List.mem_cons.mp (I3.stkSub b z) with e | e
   ·exact (f3 b hb).2.1 e
   ·exact (f3 b hb).2.2.1 e
 have hYp:Y.prog=X.prog:=by rw [←hY];rfl
 have hYw:Y.w=X.w:=by rw [←hY];rfl
 have hYK:Y.K=X.K:=by rw [←hY];rfl
 have hYA:Y.A=X.A:=by rw [←hY];rfl
 have hYe:Y.env=compEnvC scope cl s3.heap.objs.size X.env:=by rw [←hY];rfl
 have hYx:Y.xe=fun _ _=>False:=by rw [←hY];rfl
 have hYc:Y.calm=true:=by rw [←hY];exact hc
 have loop:codeAny (model X.prog X.w) X.A (.compLoop (.ListComp elt [⟨tg,iter,ifs,0⟩] scope pos) 0 (.ref it) (.ref s2.heap.objs.size) (compEnvC scope cl s3.heap.objs.size X.env))
   (RR (.ref s2.heap.objs.size) s3.heap.objs.size) {s3 with heap:=h4,toks:=s3.toks+([]:List (Str×Value)).length}:=by
  refine zla (fun n s'=> ∃i acc σ' H',Inv Y [] σ' H' s'∧tn i s'.heap∧(∀b∈fp,H' b=none)∧W i n acc σ' H') ?_ m0 ⟨0,[],_,_,I4,st4,fun b hb=>(f3 b hb).1,w0⟩
  rintro n s5 ⟨i,acc,σ5,H5,I5,st5,fr5,w5⟩
  obtain ⟨hacc,turn5⟩:=turn i n acc σ5 H5 w5
  rcases turn5 with ⟨stop,qn⟩ | ⟨go,N,hN,step⟩
  ·have d:=T.done Y hYp hYw hYK hYc i [] s5 σ5 H5 (fun _ _=>False) I5 (fY fr5) st5 stop
   rw [hYA] at d
   refine zo d fun r s6 ⟨hr,I6⟩=>?_
   subst hr
   obtain ⟨m,hn,_⟩:=id I6.loc
   rw [hYe] at hn
   have fC:H5 s3.heap.objs.size=none:=by
    have:=I6.free
    rw [hYe] at this
    exact this
   have hok6:HOk X.prog X.w H5 s6.heap:=by
    have:=I6.hok
    rw [hYp,hYw] at this
    exact this
   have un6:Un (zO X.stack) fp (zg H2 s2.heap.objs.size (.lst [])) H5 s3.heap s6.heap:=by
    have:=I6.base
    subst hY
    exact this
   have os6:s6.os=s3.os:=by
    have:=I6.os
    subst hY
    exact this
   have IX:Inv X pins σ H5 s6:=I3.call' (ch:=fp) os6 un6 hok6 I6.bare fun b hb=>⟨(f3 b hb).2.2.2.1,(f3 b hb).2.1,(f3 b hb).2.2.2.2.1,(f3 b hb).2.2.2.2.2⟩
   refine hRR _ _ s6 ⟨⟨H5,IX,fC,qn⟩,⟨m,hn⟩,Nat.ne_of_gt I3.lt,I3.nofs (Nat.le_refl _),I3.sz,fun x c e z=>?_,fun p hp z=>?_⟩
   ·obtain ⟨v,q⟩:=I3.cell x c e
    exact absurd q.lt (by rw [z];exact Nat.lt_irrefl _)
   ·exact absurd (Heap.lt_size (I3.pin p hp).1) (by rw [z];exact Nat.lt_irrefl _)
  ·have d:=T.item Y hYp hYw hYK hYc i [] s5 σ5 H5 (fun _ _=>False) I5 (fY fr5) st5 go
   rw [hYA] at d
   refine zo d fun r s6 ⟨u,hr,h6⟩=>?_
   subst hr
   refine zo h6 fun _ s7 ⟨x,H7,I7,r7,y7,st7,fr7⟩=>?_
   have I7':=I7.pinned (fY fr7) (T.obj _ _ st7)
   have g7:=hgC _ s7 σ5 H7 x u _ I7' r7 (step x H7 y7)
   rw [hYp,hYw,hYA,hYe,hYx] at g7
   refine zo g7 fun _ s8 ⟨σ8,H8,I8,q8⟩=>?_
   have t8:=htC _ s8 σ8 H8 _ I8 q8
   rw [hYp,hYw,hYA,hYe,hYx] at t8
   have back: ∀{σ9:St} {H9:Hp} {s9:Shared} {acc':List V},Inv Y ([]++zh9 fp s7.heap) σ9 H9 s9→N acc' σ9 H9→∃m,m < n∧∃i acc σ' H',Inv Y [] σ' H' s9∧tn i s9.heap∧(∀b∈fp,H' b=none)∧W i m acc σ' H':=fun {σ9 H9 s9 acc'} I9 w9=>by
    obtain ⟨m',hm,w9⟩:=hN _ _ _ w9
    refine ⟨m',hm,i+1,acc',σ9,H9,I9.unpinned,T.keep _ _ _ st7 fun b hb o e=>(I9.pin (b,o) (List.mem_append_right _ (List.mem_append_right _ (zdl hb e)))).1,fun b hb=>?_,w9⟩
    obtain ⟨o,e,d⟩:=T.obj _ _ st7 b hb
    exact (I9.pin (b,o) (List.mem_append_right _ (List.mem_append_right _ (zdl hb e)))).2.1
   refine zo t8 fun ok s9 ⟨H9,I9,q9⟩=>?_
   cases ok with
   | false=>
    rw [if_neg (by simp)] at q9 ⊢
    exact back I9 q9
   | true=>
    rw [if_pos rfl] at q9 ⊢
    have e9:=heC _ s9 σ8 H9 _ I9 q9
    rw [hYp,hYw,hYA,hYe,hYx] at e9
    refine zo e9 fun y s10 ⟨z,H10,I10,r10,hacc10,hlen,w10⟩=>?_
    have a10:=zcn (X:=Y) _ s10 σ8 H10 (.ref s2.heap.objs.size) [z] (.ref s2.heap.objs.size) [y] (fun _ H'=>N (acc++[z]) σ8 H') I10 rfl (.cons r10 .nil) ⟨_,_,z,rfl,rfl,hacc10,hlen,w10⟩
    rw [hYp,hYw,hYA,hYx] at a10
    exact zo a10 fun _ s11 ⟨_,H11,I11,_,w11⟩=>back I11 w11
 exact codeAny_compStart_list loop (T.self X.A 0 _ _ _ st4 loop)
theorem zrt {elt tg iter:Expr} {ifs:List Expr} {loc free:List Str} {fr:List Nat} {scope:Scope} {pos:Pos} {wi:TI} {g:TG} {tc:TT} {te:TE} (hc:X.calm=true) (S:CompScope X loc free fr scope) (hi:PI X tg iter wi)
  (hg: ∀cl C s H ex,PG (qg X (loc++free) scope cl C s H ex) tg g) (ht: ∀cl C s H ex,PTs (qg X (loc++free) scope cl C s H ex) ifs tc) (he: ∀cl C s H ex,PE (qg X (loc++free) scope cl C s H ex) elt te)
  (hs: ∀x,foldedSetIterable iter X.env x=pure x:=by intro _;rfl):PE X (.ListComp elt [⟨tg,iter,ifs,0⟩] scope pos) (zqf wi loc.length fr g tc te):=by
 intro pins s σ H Q I h
 rw [eval_ListComp]
 obtain ⟨cl,hcl,hc1,hc2⟩:=zhe (scope:=scope) (env:=X.env) fun y hy hf=>I.ok.has y.1 (S.frees y hy hf)
 refine wpAny_comprehension_free (use:=none) rfl hs hcl S.kind S.names ?_
 refine zpb (RR:=fun acc C=>compPost (model X.prog X.w) X.A X.xe none (EP X pins σ Q) acc C) hc S hi hg ht he I h hc1 hc2 fun D C s6 ce=>?_
 obtain ⟨H5,IX,fC,q⟩:=ce.inv
 obtain ⟨m,hn⟩:=ce.ns
 exact ⟨m,hn,fun h7 hs7=>⟨.ref D,H5,IX.turned (t':=s6.toks) (fun b o hb e=>hs7.extBut b o hb e) fC ce.neL (.inr ce.new) ce.cel ce.pin,rfl,q⟩⟩
end
section
variable {X:Cx} {pins:List (Addr×Obj)} {σ:St} {H:Hp} {s:Shared} {h':Heap}
theorem Inv.turnLay {ch:List Addr} {a:Addr} {o:HO} {t':Nat} (I:Inv X pins σ H s) (k: ∀b u,b∉ch→s.heap.get? b=some u→h'.get? b=some u) (hch: ∀b∈ch,yj X pins H b)
  (hp:s.heap.objs.size≤a) (new:ObjOk X.prog X.w (zg H a o) h' a o):Inv X pins σ (zg H a o) {s with heap:=h',toks:=t'}:=by
 have hn:H a=none:=I.hok.fresh hp
 have ne: ∀b u,s.heap.get? b=some u→b≠a:=fun b u e=>Nat.ne_of_lt (Nat.lt_of_lt_of_le (Heap.lt_size e) hp)
 have nc: ∀b u,H b=some u→b∉ch:=fun b u e hb=>by have:=(hch b hb).1;rw [e] at this;cases this
 refine I.step (g':=s.gens) (d':=s.drawn) (ch:=ch) (fun b hb=>⟨(hch b hb).2.2.2.1,(hch b hb).2.1,(hch b hb).2.2.2.2.1,(hch b hb).2.2.2.2.2⟩) (fun b u _ _ hc e _=>k b u hc e) (fun b u _ _ hc e _=>⟨u.slots,k b u hc e⟩)
  (fun b u _ e n=>by rw [zl (ne b u e)];exact n) (fun b u hc e=>⟨u,k b u hc e⟩) (fun b xs e=>by rw [zl (zT e hn)];exact e) (fun b u v e=>by rw [zl (zT e hn)];exact e)
  (fun b ps e=>⟨#[],by rw [zl (zT e hn)];rw [e];simp⟩) (fun m hm=>?_) (fun b u e=>?_) I.bare
 ·obtain ⟨ob,es,ep,ho,r⟩:=hm
  refine ⟨ob,es,ep,k _ ob (fun hb=>(hch _ hb).2.1 rfl) ho,r⟩
 ·by_cases hb:b=a
  ·subst hb;rw [zI] at e;cases e;exact new
  ·rw [zl hb] at e
   refine (I.hok b u e).stay (fun c v hc q=>k c v ?_ q) (fun c q=>by rw [zl (zT q hn)];exact q) fun c xs q=>by rw [zl (zT q hn)];exact q
   rcases hc with z | z
   ·rw [z];exact nc b u e
   ·exact nc c _ z
theorem Inv.turnedL {ch:List Addr} {t':Nat} (I:Inv X pins σ H s) (k: ∀b u,b∉ch→s.heap.get? b=some u→h'.get? b=some u) (hch: ∀b∈ch,yj X pins H b):Inv X pins σ H {s with heap:=h',toks:=t'}:=by
 have nc: ∀b u,H b=some u→b∉ch:=fun b u e hb=>by have:=(hch b hb).1;rw [e] at this;cases this
 refine I.step (g':=s.gens) (d':=s.drawn) (ch:=ch) (fun b hb=>⟨(hch b hb).2.2.2.1,(hch b hb).2.1,(hch b hb).2.2.2.2.1,(hch b hb).2.2.2.2.2⟩) (fun b u _ _ hc e _=>k b u hc e) (fun b u _ _ hc e _=>⟨u.slots,k b u hc e⟩)
  (fun b u _ e n=>n) (fun b u hc e=>⟨u,k b u hc e⟩) (fun b xs e=>e) (fun b u v e=>e) (fun b ps e=>⟨#[],by rw [e];simp⟩) (fun m hm=>?_) (fun b u e=>?_) I.bare
 ·obtain ⟨ob,es,ep,ho,r⟩:=hm
  refine ⟨ob,es,ep,k _ ob (fun hb=>(hch _ hb).2.1 rfl) ho,r⟩
 ·refine (I.hok b u e).stay (fun c v hc q=>k c v ?_ q) (fun c q=>q) fun c xs q=>q
  rcases hc with z | z
  ·rw [z];exact nc b u e
  ·exact nc c _ z
end
section
variable {X:Cx}
theorem zig:yA X (.builtin "isinstance") (fun xs H Q=> ∃x T t b,xs=[x,.ty T]∧TyOf X.K H x t∧PySem.W.kitOne X.K t (.type T)=some b∧Q (.bl b) H):=by
 intro pins s σ H xs us Q I r h
 obtain ⟨x,T,t,b,rfl,ty,e,q⟩:=h
 obtain ⟨u,v,rfl,rx,ry⟩:=znz r
 cases ry
 exact zlh I rx ty e fun tk=>⟨.bl b,H,I.tok tk,rfl,q⟩
theorem zjt {A:Around} (h:A.handled=none):A.in1.handled=none:=h
theorem zoc (hc:X.calm=true):yA X (.builtin "all") (fun xs H Q=> ∃(p:Addr) (bs:List Bool),xs=[.ref p]∧SqL X.K H p (bs.map V.bl)∧Q (.bl (bs.all id)) H):=by
 intro pins s σ H xs us Q I r h
 obtain ⟨p,bs,rfl,hq,q⟩:=h
 obtain ⟨u,rfl,rx⟩:=zm1 r
 cases rx
 obtain ⟨its,rv,pl,hz⟩:=I.list hq
 refine call_all_walk (wpAny_pyIter_list pl.isList ?_)
 have hp:p < s.heap.objs.size:=by obtain ⟨o,n,e,_⟩:=pl;exact Heap.lt_size e
 have hlen:its.length=bs.length:=by rw [←rv.length,List.length_map]
 refine ⟨s.heap.objs.size,_,_,_,_,_,fun i=>bs.getD i true,rfl,Walks.list (zjt (I.ok.hd hc)) _ p (Nat.ne_of_lt hp) its.toArray,⟨⟨_,Heap.get?_push_size _ rfl,rfl,rfl⟩,pl.isList.push _⟩,?_,fun h' tk k=>?_⟩
 ·intro i v s' Q' E' hv hQ
  have hv':its[i]? =some v:=by simpa using hv
  have hi:i < bs.length:=by rw [←hlen];exact (List.getElem?_eq_some_iff.mp hv').1
  obtain ⟨u,hu,ru⟩:=rv.get (i:=i) (x:= .bl bs[i]) (by simp [hi])
  rw [hv'] at hu;cases hu
  cases ru
  refine wpAny_truthy_bool ?_
  have e:bs.getD i true=bs[i]:=by simp [hi]
  dsimp only at hQ
  rw [e] at hQ
  exact hQ
 ·refine ⟨.bl _,H,I.kept (t':=tk) (fun b o e=>k b o (by simpa using Nat.ne_of_lt (Heap.lt_size e)) (Heap.get?_push_of_some _ e)),?_,q⟩
  show Value.bool _=Value.bool _
  congr 1
  rw [List.size_toArray,hlen]
  have: ∀(bs:List Bool) (n:Nat),n=bs.length→(List.range n).all (fun i=>bs.getD i true)=bs.all id:=by
   intro bs n hn
   rw [Bool.eq_iff_iff,List.all_eq_true,List.all_eq_true]
   constructor
   ·intro h x hx
    obtain ⟨i,hi,rfl⟩:=List.mem_iff_getElem.mp hx
    have:=h i (List.mem_range.mpr (by omega))
    simpa [hi] using this
   ·intro h i hi
    have hi':i < bs.length:=by have:=List.mem_range.mp hi;omega
    have:=h bs[i] (List.getElem_mem hi')
    simpa [hi'] using this
  exact this bs _ rfl
theorem zfj (ns:List Int): ∀k,k≤ns.length→preSum (fun i=>ns.getD i 0) k=(ns.take k).sum
 | 0,_=>by simp [preSum]
 | k+1,h=>by
  have hk:k < ns.length:=h
  have e:ns.take (k+1)=ns.take k++[ns[k]]:=by rw [List.take_add_one];simp [hk]
  rw [preSum,zfj ns k (by omega),e,List.sum_append]
  simp [hk]
def zp7 (ns:List Int):Prop:=∀j,j < ns.length→InLong (ns.getD j 0)∧InLong ((ns.take (j+1)).sum)
theorem zoh (hc:X.calm=true):yA X (.builtin "sum") (fun xs H Q=> ∃(p:Addr) (ns:List Int),xs=[.ref p]∧SqL X.K H p (ns.map V.int)∧zp7 ns∧Q (.int ns.sum) H):=by
 intro pins s σ H xs us Q I r h
 obtain ⟨p,ns,rfl,hq,ok,q⟩:=h
 obtain ⟨u,rfl,rx⟩:=zm1 r
 cases rx
 obtain ⟨its,rv,pl,hz⟩:=I.list hq
 refine call_sum_walk (wpAny_pyIter_list pl.isList ?_)
 have hp:p < s.heap.objs.size:=by obtain ⟨o,n,e,_⟩:=pl;exact Heap.lt_size e
 have hlen:its.length=ns.length:=by rw [←rv.length,List.length_map]
 refine ⟨s.heap.objs.size,_,_,_,_,_,fun i=>ns.getD i 0,rfl,Walks.list (zjt (I.ok.hd hc)) _ p (Nat.ne_of_lt hp) its.toArray,⟨⟨_,Heap.get?_push_size _ rfl,rfl,rfl⟩,pl.isList.push _⟩,?_,?_,?_,fun h' tk t' k=>?_⟩
 ·intro b hb
  have hs:(s.heap.push {cls:= .type "list_iterator",data:= .fields #[.ref p,.int 0 0]}).objs.size=s.heap.objs.size+1:=Heap.size_push ..
  show b < (s.heap.push {cls:= .type "list_iterator",data:= .fields #[.ref p,.int 0 0]}).objs.size
  rw [hs]
  rcases List.mem_cons.mp hb with rfl | hb
  ·exact Nat.lt_succ_self _
  ·have:b=p:=by simpa using hb
   subst this;exact Nat.lt_succ_of_lt hp
 ·intro i v hv
  have hv':its[i]? =some v:=by simpa using hv
  have hi:i < ns.length:=by rw [←hlen];exact (List.getElem?_eq_some_iff.mp hv').1
  obtain ⟨u,hu,ru⟩:=rv.get (i:=i) (x:= .int ns[i]) (by simp [hi])
  rw [hv'] at hu;cases hu
  obtain ⟨t,e⟩:=ru
  exact ⟨t,by rw [e];simp [hi]⟩
 ·intro j hj
  have hj':j < ns.length:=by rw [←hlen];simpa using hj
  rw [zfj ns (j+1) hj']
  exact ok j hj'
 ·refine ⟨.int _,H,I.kept (t':=tk) (fun b o e=>k b o (by simpa using Nat.ne_of_lt (Heap.lt_size e)) (Heap.get?_push_of_some _ e)),⟨t',?_⟩,q⟩
  show Value.int _ _=Value.int _ _
  congr 1
  rw [List.size_toArray,hlen,zfj ns _ (Nat.le_refl _),List.take_length]
end
end L2
namespace L2
open PySem PySem.W PySem.Spec PyProof.Rows
def Itz (K:PySem.W.Frag) (a b:Addr):It:=
 ⟨fun i H=> ∃(xs ys:List V) (x y:V),SqL K H a xs∧SqL K H b ys∧xs[i]? =some x∧ys[i]? =some y,
  fun i H v H'=> ∃(T:Addr) (x y:V),v= .ref T∧H T=none∧H'=zg H T (.tup [x,y])∧(∀xs,SqL K H a xs→xs[i]? =some x)∧∀ys,SqL K H b ys→ys[i]? =some y,
  fun i H=> ∃xs ys,SqL K H a xs∧SqL K H b ys∧(xs.length≤i∨ys.length≤i)⟩
def zvg (z TI TO i1 i2 a b:Addr) (i:Nat) (h:Heap):Prop:=
 IsZip h z TI TO .none∧IsPair h TI (.ref i1) (.ref i2)∧(∃u v,IsPair h TO u v)∧h.IsListIter i1 a i∧h.IsListIter i2 b i
theorem zok {P:Program} {w:World} {K:PySem.W.Frag} {elts:List Expr} {x1} {tp:Pos} {z TI TO i1 i2 a b:Addr} (D:ZipApart z TI TO i1 i2 a b):
  Turn P w K (.Tuple elts x1 tp) (Itz K a b) [z,TI,TO,i1,i2] z (zvg z TI TO i1 i2 a b) where
 mem:=by simp
 obj:=fun i h st c hc=>by
  obtain ⟨hz,hTI,⟨u,v,hTO⟩,⟨o1,e1,_,d1⟩,⟨o2,e2,_,d2⟩⟩:=st
  simp only [List.mem_cons,List.not_mem_nil,or_false] at hc
  rcases hc with rfl | rfl | rfl | rfl | rfl
  ·exact ⟨_,hz,fun v e=>by cases e⟩
  ·exact ⟨_,hTI,fun v e=>by cases e⟩
  ·exact ⟨_,hTO,fun v e=>by cases e⟩
  ·exact ⟨_,e1,fun v e=>by rw [d1] at e;cases e⟩
  ·exact ⟨_,e2,fun v e=>by rw [d2] at e;cases e⟩
 keep:=fun i h h' st k=>by
  obtain ⟨hz,hTI,⟨u,v,hTO⟩,h1,h2⟩:=st
  exact ⟨k z (by simp) _ hz,k TI (by simp) _ hTI,⟨u,v,k TO (by simp) _ hTO⟩,h1.at fun o e=>k i1 (by simp) o e,h2.at fun o e=>k i2 (by simp) o e⟩
 item:=fun X hp hw hK hc i pins s σ H E I fp st go=>by
  subst hp hw hK
  obtain ⟨hz,hTI,⟨u,v,hTO⟩,h1,h2⟩:=st
  obtain ⟨xs,ys,x,y,qa,qb,ex,ey⟩:=go
  obtain ⟨vs,rv,pv,_⟩:=I.list qa
  obtain ⟨us,ru,pu,_⟩:=I.list qb
  obtain ⟨vx,evx,rvx⟩:=rv.get ex
  obtain ⟨uy,euy,ruy⟩:=ru.get ey
  refine wpAny_pyNext_zip_item D hz hTI hTO h1 h2 pv.isList pu.isList (x:=vx) (y:=uy) (by simpa using evx) (by simpa using euy) fun h' a1 a2 a3 a4 a5 a6 hk=>?_
  refine ⟨_,rfl,wpAny_letOwnedTupleGo_zip a1 fun h'' b1 b2=>?_⟩
  have nz:s.heap.objs.size≠z:=Nat.ne_of_gt (Heap.lt_size hz)
  have k2: ∀c o,c∉[z,TO,i1,i2]→s.heap.get? c=some o→h''.get? c=some o:=fun c o hcn e=>by
   simp only [List.mem_cons,List.not_mem_nil,or_false,not_or] at hcn
   exact b2.extBut _ _ hcn.1 (hk c o hcn.1 hcn.2.1 hcn.2.2.1 hcn.2.2.2 e)
  have I':Inv X pins σ (zg H s.heap.objs.size (.tup [x,y])) {s with heap:=h'',toks:=s.toks}:=
   I.turnLay (ch:=[z,TO,i1,i2]) k2 (fun c hcn=>fp c (by simp only [List.mem_cons,List.not_mem_nil,or_false] at hcn ⊢;rcases hcn with h | h | h | h <;> simp [h])) (Nat.le_refl _)
    ⟨by show 2≤sizeLine;decide,[vx,uy],.cons rvx (.cons ruy .nil),⟨_,b2.extBut _ _ nz a5,rfl,_,rfl⟩⟩
  have nf:H s.heap.objs.size=none:=I.hok.fresh (Nat.le_refl _)
  refine ⟨.ref s.heap.objs.size,_,I',rfl,⟨_,x,y,rfl,nf,rfl,fun xs' q=>?_,fun ys' q=>?_⟩,⟨b1,b2.extBut _ _ D.TIz (hk _ _ D.TIz D.TITO D.TIi1 D.TIi2 hTI),⟨_,_,b2.extBut _ _ D.TOz a2⟩,a3.extBut b2.extBut D.i1z,a4.extBut b2.extBut D.i2z⟩,fun c hcn=>?_⟩
  ·rw [I.list_inj q qa];exact ex
  ·rw [I.list_inj q qb];exact ey
  ·have hc1:=fp c hcn
   have:c≠s.heap.objs.size:=by
    have hlt:c < s.heap.objs.size:=by
     simp only [List.mem_cons,List.not_mem_nil,or_false] at hcn
     rcases hcn with rfl | rfl | rfl | rfl | rfl
     ·exact Heap.lt_size hz
     ·exact Heap.lt_size hTI
     ·exact Heap.lt_size hTO
     ·obtain ⟨_,e,_⟩:=h1;exact Heap.lt_size e
     ·obtain ⟨_,e,_⟩:=h2;exact Heap.lt_size e
    exact Nat.ne_of_lt hlt
   rw [zl this]
   exact hc1.1
 done:=fun X hp hw hK hc i pins s σ H E I fp st stop=>by
  subst hp hw hK
  obtain ⟨hz,hTI,⟨u,v,hTO⟩,h1,h2⟩:=st
  obtain ⟨xs,ys,qa,qb,hend⟩:=stop
  obtain ⟨vs,rv,pv,_⟩:=I.list qa
  obtain ⟨us,ru,pu,_⟩:=I.list qb
  have l1:=rv.length
  have l2:=ru.length
  refine wpAny_pyNext_zip_end (I.ok.hd hc) D hz hTI hTO h1 h2 pv.isList pu.isList ?_ fun h' hk=>⟨rfl,?_⟩
  ·rcases hend with h | h
   ·exact .inl (by rw [Array.getElem?_eq_none_iff,List.size_toArray];omega)
   ·exact .inr (by rw [Array.getElem?_eq_none_iff,List.size_toArray];omega)
  ·refine I.turnedL (ch:=[z,TO,i1,i2]) (t':=s.toks) (fun c o hcn e=>?_) (fun c hcn=>fp c (by simp only [List.mem_cons,List.not_mem_nil,or_false] at hcn ⊢;rcases hcn with h | h | h | h <;> simp [h]))
   simp only [List.mem_cons,List.not_mem_nil,or_false,not_or] at hcn
   exact hk c o hcn.1 hcn.2.1 hcn.2.2.1 hcn.2.2.2 e
 self:=fun A i s Q E st h=>wpAny_pyIter_zip st.1 h
def iZip (K:PySem.W.Frag) (ta:TA):TI:=fun σ H R=>ta σ H fun vs H1=> ∃(a b:Addr) (xs ys:List V),vs=[.ref a,.ref b]∧SqL K H1 a xs∧SqL K H1 b ys∧R (Itz K a b) H1
theorem zt6 {X:Cx} {elts:List Expr} {x1} {tp:Pos} {e1 e2:Expr} {ta:TA} {p pos:Pos} (hg:Gl X "zip") (hm:X.mg "zip" =none) (ha:PA X [e1,e2] ta) (hs:starEach [e1,e2] X.env=[(false,eval e1 X.env),(false,eval e2 X.env)]:=by rfl) (hs2:starEach [e2] X.env=[(false,eval e2 X.env)]:=by rfl):
  PI X (.Tuple elts x1 tp) (.Call (.Name "zip" p) [e1,e2] [] pos) (iZip X.K ta):=by
 intro pins s σ H R I h
 refine Call_ (zff I hg hm (by rfl) (PyProof.Rows.callWith_type1 (zo (ha pos pins s σ H _ I h) fun us s1 ⟨vs,H1,I1,r1,q1⟩=>?_) (by rw [hs,hs2]) (by rw [hs2];rfl)))
 obtain ⟨a,b,xs,ys,rfl,qa,qb,q⟩:=q1
 obtain ⟨u,v,rfl,ru,rv⟩:=znz r1
 cases ru
 cases rv
 obtain ⟨vs,rva,pa,_⟩:=I1.list qa
 obtain ⟨us,rvb,pb,_⟩:=I1.list qb
 have la:a < s1.heap.objs.size:=by obtain ⟨o,n,e,_⟩:=pa;exact Heap.lt_size e
 have lb:b < s1.heap.objs.size:=by obtain ⟨o,n,e,_⟩:=pb;exact Heap.lt_size e
 refine call_zip_2 pa.isList pb.isList fun h' hz hTI hTO hi1 hi2 hsz hk=>?_
 refine wpAny_pyIter_zip hz ?_
 have I2:Inv X pins σ H1 {s1 with heap:=h'}:=I1.kept (t':=s1.toks) hk
 refine ⟨_,[s1.heap.objs.size+4,s1.heap.objs.size+2,s1.heap.objs.size+3,s1.heap.objs.size,s1.heap.objs.size+1],_,_,H1,rfl,I2,zok (zipApart_new la lb),⟨hz,hTI,⟨_,_,hTO⟩,hi1,hi2⟩,fun c hc=>?_,q⟩
 have hge:s1.heap.objs.size≤c:=by
  simp only [List.mem_cons,List.not_mem_nil,or_false] at hc
  rcases hc with rfl | rfl | rfl | rfl | rfl
  all_goals first | exact Nat.le_refl _ | exact Nat.le_add_right _ _
 exact I1.fpOk hge (I1.hok.fresh hge)
def zpx (sc:Scope) (N loc free:List Str) (fr:List Nat) (scope:Scope):Bool:=
 decide (scope.kind= .function) && scope.names.all (fun y=>decide (y.2≠ .cell)) && scope.names.all (fun y=>decide (y.2≠ .local) || decide (scope.names.lookup y.1=some .local)) &&
 scope.names.all (fun y=>decide (y.2≠ .free) || (decide (sc.names.lookup y.1=some .cell) || decide (sc.names.lookup y.1=some .free))) && decide (fr.length=free.length) &&
 (List.range fr.length).all fun i=>match fr[i]?,free[i]? with
  | some j,some x=>decide (N[j]? =some x) && decide (scope.names.lookup x=some .free)
  | _,_=>true
theorem zhl {X:Cx} {sc:Scope} {N loc free:List Str} {fr:List Nat} {scope:Scope} (e1:X.env.scope=sc) (e2:X.N=N) (h:zpx sc N loc free fr scope=true):CompScope X loc free fr scope:=by
 unfold zpx at h
 simp only [Bool.and_eq_true,List.all_eq_true,Bool.or_eq_true,decide_eq_true_eq] at h
 obtain ⟨⟨⟨⟨⟨h1,h2⟩,h3⟩,h4⟩,h5⟩,h6⟩:=h
 refine ⟨h1,fun y hy=>h2 y hy,fun y hy hl=>(h3 y hy).elim (fun z=>absurd hl z) id,fun y hy hf=>?_,fun i j x a b=>?_,h5⟩
 ·show X.env.scope.names.lookup y.1=some .cell∨X.env.scope.names.lookup y.1=some .free
  rw [e1]
  exact (h4 y hy).elim (fun z=>absurd hf z) id
 ·have hi:i < fr.length:=(List.getElem?_eq_some_iff.mp a).1
  have:=h6 i (List.mem_range.mpr hi)
  rw [a,b] at this
  simp only [Bool.and_eq_true,decide_eq_true_eq] at this
  rw [e2]
  exact this
theorem pgc {X:Cx} {x:Str} {pos:Pos} (i:Nat) (N:List Str) (nd:N.Nodup) (eN:X.N=N) (hi:N[i]? =some x) (hx:Loc X.env.scope x) (hl:X.env.scope.names.lookup x=some .local):PG X (.Name x pos) (zou i):=
 yR (eN ▸ nd) (by rw [eN];exact hi) hx (.inr hl)
structure Dfn (K:PySem.W.Frag) (mg:Str→Option Value) (x:Str) (st:Stmt) (ps:List Str) (f:Addr) (fd:FuncData):Prop where
 F:Fun K x x st f fd
 b:Binds K fd ps []
 g:mg x=some (.ref f)
structure DfnM (K:PySem.W.Frag) (x qual:Str) (st:Stmt) (ps:List Str) (f:Addr) (fd:FuncData):Prop where
 F:Fun K x qual st f fd
 b:Binds K fd ps []
end L2
namespace L2
open PySem PySem.Spec PyProof.Rows
def TrD (h base:Heap) (e:Addr) (cls a0:Value) (dd:Option Addr) (fl:Value):Prop:=
 ∃oe vs T oT ts,h.get? e=some oe∧(oe.cls=cls∧oe.dict=dd∧vs[0]? =some a0)∧oe.data= .fields vs∧vs[1]? =some (.ref T)∧base.get? T=none∧T≠e∧h.get? T=some oT∧oT.data= .fields ts∧ts[3]? =some fl
def yQ (base:Heap) (l:List Env) (e:Addr) (cls a0:Value) (dd:Option Addr) (fl:Value) (h:Heap):Prop:=base.StaysIn h∧base.get? e=none∧h.FunFrames base l∧TrD h base e cls a0 dd fl
theorem znx (o:Obj) (f:Array Value→Array Value):(Obj.mapFields f o).dict=o.dict:=by
 obtain ⟨c,d,dt,sl⟩:=o
 cases dt <;> rfl
section
variable {M:Model} {A:Around} {E:Value→Shared→Prop} {s:Shared} {base:Heap} {env:Env} {outer l:List Env} {L e:Addr} {oe:Obj} {vs:Array Value} {head a0 cls fl:Value} {dd:Option Addr} {hadNext:Bool} {Q:Unit→Shared→Prop}
theorem zpy (hfr:A.frames=some (env::outer)) (hl:s.heap.FunFrames base (env::outer)) (hf:env.frame=some L)
  (he:s.heap.get? e=some oe) (hkb:base.StaysIn s.heap) (hen:base.get? e=none) (hd:oe.data= .fields vs) (hsz:1 < vs.size) (h0:vs[0]? =some a0)
  (h: ∀h',yQ base (env::outer) e oe.cls a0 oe.dict (rawInt L) h'→s.heap.UpToSlots h'→Q () {s with heap:=h'}):
  wpAny M A (do let a ←PySem.frameOf env;let pl ←entryPlaceOf L hadNext;let b ←EntryCells.newEntry head a .none (rawInt L) .none pl;setField (.ref e) 1 b) Q E s:=by
 have ne:e∉(env::outer).filterMap (·.frame):=fun hm=>by
  obtain ⟨_,o,ho,hnf⟩:=hl.mem hm
  rw [he] at ho;cases ho;exact hnf vs hd
 refine wpAny_bind (wpAny_frameOf_fun hfr hl hf fun g hg=>wpAny_bind (wpAny_entryPlaceOf fun pl hpl=>?_))
 unfold EntryCells.newEntry newFields
 refine wpAny_bind (wpAny_newObj_type ?_ (hpl.sizeOk5 _ _ _ _ _))
 generalize hO:({cls:= .type "traceback",dict:=none,data:= .fields ([head,.ref L,.none,rawInt L,.none]++(if pl.isEmpty then List.replicate 6 Value.none else pl)).toArray}:Obj)=O
 have g1:g.get? e=some oe:=(hg.2.1 e ne).trans he
 have kb:base.StaysIn g:=fun b o q=>(hg.2.1 b fun hm=>by rw [(hl.mem hm).1] at q;cases q).trans (hkb b o q)
 have g2:=Heap.get?_push_of_some (h:=g) O g1
 refine wpAny_setField g2 hd hsz (h _ ?_ ?_)
 all_goals have te:g.objs.size≠e:=Nat.ne_of_gt (Heap.lt_size g1)
 all_goals have d3:=Obj.data_mapFields hd (·.setIfInBounds 1 (Value.ref g.objs.size))
 all_goals have g3:=Heap.get?_update_self (Obj.mapFields (·.setIfInBounds 1 (Value.ref g.objs.size))) g2 (Obj.isFreed_of_fields d3)
 all_goals have t3:=(Heap.get?_update_other (g.push O) (Obj.mapFields (·.setIfInBounds 1 (Value.ref g.objs.size))) (Ne.symm te)).trans (Heap.get?_push_size g (by rw [←hO];rfl))
 all_goals have keep: ∀b o,b≠e→g.get? b=some o→((g.push O).update e (Obj.mapFields (·.setIfInBounds 1 (Value.ref g.objs.size)))).get? b=some o:=fun b o hbe hb=>(Heap.get?_update_other _ _ (Ne.symm hbe)).trans (Heap.get?_push_of_some _ hb)
 all_goals have nr: ∀b o,s.heap.get? b=some o→(∀vs,o.data≠ .fields vs)→b≠e:=fun b o hb hnf q=>by rw [q,he] at hb;cases hb;exact hnf vs hd
 ·refine ⟨fun b o q=>keep b o (fun z=>by rw [z,hen] at q;cases q) (kb b o q),hen,hl.of_keeps fun b o hb hnf=>?_,?_⟩
  ·obtain ⟨sl,hs⟩:=hg.2.2 b o hb
   exact ⟨_,keep b _ (nr b o hb hnf) hs,rfl⟩
  ·exact ⟨_,_,g.objs.size,O,([head,.ref L,.none,rawInt L,.none]++(if pl.isEmpty then List.replicate 6 Value.none else pl)).toArray,g3,⟨Obj.cls_mapFields _ _,znx _ _,by rw [Array.getElem?_setIfInBounds_ne (by decide)];exact h0⟩,d3,by simp [hsz],kb.fresh,te,t3,by rw [←hO],by first | (simp;done) | (rcases hpl with rfl | ⟨_,_,_,_,_,_,_,rfl⟩ <;> simp)⟩
 ·intro b o hb hnf
  obtain ⟨sl,hs⟩:=hg.2.2 b o hb
  exact ⟨sl,keep b _ (nr b o hb hnf) hs⟩
theorem zjp (fo:Option Addr) (R:yQ base l e cls a0 dd fl s.heap) (h: ∀h',yQ base l e cls a0 dd (fo.elim .none fun f=>rawInt f) h'→s.heap.UpToSlots h'→Q () {s with heap:=h'}):wpAny M A (setFlight (.ref e) fo) Q E s:=by
 obtain ⟨k,en,hl,oe,vs,T,oT,ts,he,hcls,hd,h1,hnT,hTe,hT,hdT,h3⟩:=R
 have z3:3 < ts.size:=(Array.getElem?_eq_some_iff.mp h3).1
 have oth: ∀b,b≠T→(s.heap.update T (Obj.mapFields (·.setIfInBounds 3 (fo.elim Value.none fun f=>rawInt f)))).get? b=s.heap.get? b:=fun b hb=>Heap.get?_update_other _ _ (Ne.symm hb)
 have nr: ∀b o,s.heap.get? b=some o→(∀vs,o.data≠ .fields vs)→b≠T:=fun b o hb hnf q=>by rw [q,hT] at hb;cases hb;exact hnf ts hdT
 unfold setFlight
 refine wpAny_bind (wpAny_field he hd h1 ?_)
 rw [if_pos (show (Value.ref T !=Value.none)=true from by simp)]
 refine wpAny_setField hT hdT z3 (h _ ⟨fun b o q=>(oth b fun z=>by rw [z,hnT] at q;cases q).trans (k b o q),en,hl.of_keeps fun b o hb hnf=>⟨o,(oth b (nr b o hb hnf)).trans hb,rfl⟩,?_⟩ fun b o hb hnf=>⟨o.slots,(oth b (nr b o hb hnf)).trans hb⟩)
 exact ⟨oe,vs,T,_,_,(oth e (Ne.symm hTe)).trans he,hcls,hd,h1,hnT,hTe,Heap.get?_update_self _ hT (Obj.isFreed_of_fields (Obj.data_mapFields hdT _)),Obj.data_mapFields hdT _,by simp [z3]⟩
theorem ztj (hfr:A.frames=some (env::outer)) (hf:env.frame=some L) (R:yQ base (env::outer) e cls a0 dd .none s.heap)
  (h: ∀h',yQ base (env::outer) e cls a0 dd (rawInt L) h'→s.heap.UpToSlots h'→Q () {s with heap:=h'}):wpAny M A (noteFrame (.ref e) env) Q E s:=by
 obtain ⟨k,en,hl,oe,vs,T,oT,ts,he,⟨rfl,rfl,h0⟩,hd,h1,hnT,hTe,hT,hdT,h3⟩:=R
 unfold noteFrame
 simp only [hf]
 refine wpAny_bind (wpAny_field he hd h1 ?_)
 rw [if_pos (show (Value.ref T !=Value.none)=true from by simp)]
 refine wpAny_bind (wpAny_field hT hdT h3 ?_)
 rw [if_neg (show ¬((Value.none==rawInt L)=true) from by simp [rawInt])]
 refine wpAny_bind (wpAny_setField hT hdT (Array.getElem?_eq_some_iff.mp h3).1 ?_)
 have oth: ∀b,b≠T→(s.heap.update T (Obj.mapFields (·.setIfInBounds 3 Value.none))).get? b=s.heap.get? b:=fun b hb=>Heap.get?_update_other _ _ (Ne.symm hb)
 have nr: ∀b o,s.heap.get? b=some o→(∀vs,o.data≠ .fields vs)→b≠T:=fun b o hb hnf q=>by rw [q,hT] at hb;cases hb;exact hnf ts hdT
 exact zpy hfr (hl.of_keeps fun b o hb hnf=>⟨o,(oth b (nr b o hb hnf)).trans hb,rfl⟩) hf ((oth e (Ne.symm hTe)).trans he) (fun b o q=>(oth b fun z=>by rw [z,hnT] at q;cases q).trans (k b o q)) en hd (Array.getElem?_eq_some_iff.mp h1).1 h0
  fun h' x u=>h h' x fun b o hb hnf=>u b o ((oth b (nr b o hb hnf)).trans hb) hnf
theorem zqj (hfr:A.frames=some (env::outer)) (hl:s.heap.FunFrames base (env::outer)) (hf:env.frame=some L) (he:s.heap.get? e=some oe) (hkb:base.StaysIn s.heap) (hen:base.get? e=none) (hd:oe.data= .fields vs) (h1:vs[1]? =some .none) (h0:vs[0]? =some a0)
  (h: ∀h',yQ base (env::outer) e oe.cls a0 oe.dict .none h'→s.heap.UpToSlots h'→Q () {s with heap:=h'}):wpAny M A (leaving env (.ref e)) Q E s:=by
 unfold leaving noteFrame
 simp only [hf]
 refine wpAny_bind (wpAny_bind (wpAny_field he hd h1 ?_))
 rw [if_neg (by decide)]
 exact zpy hfr hl hf he hkb hen hd (Array.getElem?_eq_some_iff.mp h1).1 h0 fun h' x u=>zjp none x fun h'' y v=>h h'' y (u.trans v)
theorem ztd (hfr:A.frames=some (env::outer)) (hf:env.frame=some L) (R:yQ base (env::outer) e cls a0 dd .none s.heap) (h: ∀h',yQ base (env::outer) e cls a0 dd .none h'→s.heap.UpToSlots h'→Q () {s with heap:=h'}):wpAny M A (leaving env (.ref e)) Q E s:=by
 unfold leaving
 exact wpAny_bind (ztj hfr hf R fun h' x u=>zjp none x fun h'' y v=>h h'' y (u.trans v))
end
def Trc (h:Heap) (a T:Addr) (cls a0:Value) (dd:Option Addr):Prop:=
 ∃oe vs oT ts,h.get? a=some oe∧(oe.cls=cls∧oe.dict=dd∧vs[0]? =some a0)∧oe.data= .fields vs∧vs[1]? =some (.ref T)∧T≠a∧h.get? T=some oT∧oT.data= .fields ts∧ts[3]? =some .none
structure Left (l:List Env) (hid:List Addr) (a T':Addr) (cls a0:Value) (dd:Option Addr) (h h':Heap):Prop where
 keep: ∀b o,h.get? b=some o→b∉hid→h'.get? b=some o
 slot: ∀b o,h.get? b=some o→b∈zO l→∃sl,h'.get? b=some {o with slots:=sl}
 trc:Trc h' a T' cls a0 dd
 new: ∀b o,h.get? b=some o→b∉hid→b≠T'
 nfr:T'∉zO l
section
variable {M:Model} {A:Around} {E:Value→Shared→Prop} {s:Shared} {base:Heap} {env:Env} {outer:List Env} {L a T:Addr} {cls a0:Value} {dd:Option Addr} {Q:Unit→Shared→Prop}
theorem ziv {l:List Env}: ∀env∈l,∀b,env.frame=some b→b∈zO l:=fun env he b hb=>List.mem_filterMap.mpr ⟨env,he,hb⟩
theorem zlx {l:List Env} {hid:List Addr} {h h':Heap} (hl:h.FunFrames base l) (x:yQ (PySem.W.hideAll h hid) l a cls a0 dd .none h') (x4:h.UpToSlots h'): ∃T',Left l hid a T' cls a0 dd h h':=by
 obtain ⟨x1,_,x2,oe,vs,T',oT,ts,t1,t2,t3,t4,t5,t6,t7,t8,t9⟩:=x
 have kp: ∀b o,h.get? b=some o→b∉hid→(PySem.W.hideAll h hid).get? b=some o:=fun b o e n=>PySem.W.hideAll_get hid e n
 refine ⟨T',fun b o e n=>x1 b o (kp b o e n),fun b o e hb=>?_,⟨oe,vs,oT,ts,t1,t2,t3,t4,t6,t7,t8,t9⟩,fun b o e n z=>?_,fun hb=>?_⟩
 ·refine x4 b o e fun vs hv=>?_
  obtain ⟨_,o',ho',hn⟩:=hl.mem hb
  rw [e] at ho'
  cases ho'
  exact hn vs hv
 ·have:=kp b o e n
  rw [z,t5] at this
  cases this
 ·obtain ⟨_,o',ho',hn⟩:=x2.mem hb
  rw [t7] at ho'
  cases ho'
  exact hn ts t8
theorem zoo (hfr:A.frames=some (env::outer)) (hl:s.heap.FunFrames base (env::outer)) (hf:env.frame=some L) (tr:Trc s.heap a T cls a0 dd)
  (hQ: ∀h' T',Left (env::outer) (a::T::zO (env::outer)) a T' cls a0 dd s.heap h'→Q () {s with heap:=h'}):wpAny M A (leaving env (.ref a)) Q E s:=by
 obtain ⟨oe,vs,oT,ts,t1,t2,t3,t4,t6,t7,t8,t9⟩:=tr
 have hid: ∀b∈zO (env::outer),b∈a::T::zO (env::outer):=fun b hb=> .tail _ (.tail _ hb)
 refine ztd (base:=PySem.W.hideAll s.heap (a::T::zO (env::outer))) (cls:=cls) (a0:=a0) (dd:=dd) hfr hf ⟨fun b o q=>PySem.W.of_hideAll _ q,PySem.W.hideAll_none _ (.head _),PySem.W.funFrames_hide hl fun e he b hb=>hid b (ziv e he b hb),
  oe,vs,T,oT,ts,t1,t2,t3,t4,PySem.W.hideAll_none _ (.tail _ (.head _)),t6,t7,t8,t9⟩ fun h' x u=>?_
 obtain ⟨T',y⟩:=zlx hl x u
 exact hQ h' T' y
theorem zlp {oe:Obj} {vs:Array Value} (hfr:A.frames=some (env::outer)) (hl:s.heap.FunFrames base (env::outer)) (hf:env.frame=some L) (he:s.heap.get? a=some oe) (hd:oe.data= .fields vs) (h1:vs[1]? =some .none) (h0:vs[0]? =some a0)
  (hQ: ∀h' T',Left (env::outer) (a::zO (env::outer)) a T' oe.cls a0 oe.dict s.heap h'→Q () {s with heap:=h'}):wpAny M A (leaving env (.ref a)) Q E s:=by
 have hid: ∀b∈zO (env::outer),b∈a::zO (env::outer):=fun b hb=> .tail _ hb
 refine zqj (base:=PySem.W.hideAll s.heap (a::zO (env::outer))) hfr (PySem.W.funFrames_hide hl fun e he b hb=>hid b (ziv e he b hb)) hf he (fun b o q=>PySem.W.of_hideAll _ q) (PySem.W.hideAll_none _ (.head _)) hd h1 h0 fun h' x u=>?_
 obtain ⟨T',y⟩:=zlx hl x u
 exact hQ h' T' y
end
theorem HOk.there {P:Program} {w:World} {H:Hp} {h:Heap} {a:Addr} {o:HO} (x:HOk P w H h) (q:H a=some o): ∃ob,h.get? a=some ob:=by
 have this:=x a o q
 cases e:h.get? a with
 | some ob=>exact ⟨ob,rfl⟩
 | none=>
  exfalso
  cases o with
  | lst xs=>obtain ⟨_,_,_,_,z⟩:=this;rw [e] at z;cases z
  | tup xs=>obtain ⟨_,_,_,o1,z,_⟩:=this;rw [e] at z;cases z
  | dK kvs=>obtain ⟨_,_,_,_,o,_,_,z,_⟩:=this;rw [e] at z;cases z
  | dT kvs=>obtain ⟨_,_,_,_,o,_,_,z,_⟩:=this;rw [e] at z;cases z
  | set S n=>obtain ⟨o,_,_,_,z,_⟩:=this;rw [e] at z;cases z
  | ins C dx fs=>obtain ⟨_,_,_,z,_⟩:=this;rw [e] at z;cases z
  | own y=>obtain ⟨_,z⟩:=this;rw [e] at z;cases z
  | xd fs=>obtain ⟨_,⟨_,_,_,z,_⟩,_⟩:=this;rw [e] at z;cases z
  | rng lo hi=>obtain ⟨_,_,_,z⟩:=this;rw [e] at z;cases z
  | frz ob u=>obtain ⟨z,_⟩:=this;rw [e] at z;cases z
  | tbl ps=>have z:h.get? a=some _:=this;rw [e] at z;cases z
  | met f y=>have z:h.get? a=some _:=this;rw [e] at z;cases z
  | ext φ=>obtain ⟨_,⟨_,z⟩,_⟩:=this;rw [e] at z;cases z
theorem HOk.untracked {P:Program} {w:World} {H:Hp} {h:Heap} {a:Addr} (x:HOk P w H h) (e:h.get? a=none):H a=none:=by
 cases q:H a with
 | none=>rfl
 | some o=>
  obtain ⟨ob,z⟩:=x.there q
  rw [e] at z;cases z
def XT (P:Program) (w:World):yu:=fun outer H s E e s'=> ∃(a T:Addr) (cls a0:Value) (dd:Option Addr) (H':Hp),e= .ref a∧s'.os=s.os∧AllBare s'.gens∧Un (zO outer) [] H H' s.heap s'.heap∧HOk P w H' s'.heap∧
 s.heap.get? a=none∧s.heap.get? T=none∧H' a=none∧H' T=none∧Trc s'.heap a T cls a0 dd∧E cls dd H'
section
variable {P:Program} {w:World} {K:PySem.W.Frag} {mg:Str→Option Value} {base:Heap} {N:List Str} {qual:Str} {scope:Scope} {f:Addr} {cd:Value} {A:Around} {outer:List Env} {s0:Shared} {H0:Hp} {E:XK}
theorem Inv.left {X:Cx} {pins:List (Addr×Obj)} {σ:St} {H:Hp} {s:Shared} {hid:List Addr} {a T':Addr} {cls a0:Value} {dd:Option Addr} {h':Heap} (hst:X.stack=X.env::X.outer) (hex:X.ex=[]) (I:Inv X pins σ H s) (y:Left X.stack hid a T' cls a0 dd s.heap h')
  (hh: ∀b∈hid,(b∈zO X.stack∨X.s₀.heap.get? b=none)∧H b=none):
  Un X.fs [] X.H₀ H X.s₀.heap h'∧HOk X.prog X.w H h'∧X.s₀.heap.get? T'=none∧H T'=none:=by
 have hfo: ∀b o,X.s₀.heap.get? b=some o→b∉X.fs→b∉zO X.stack:=fun b o e n hb=>by
  rcases List.mem_cons.mp (I.stkSub b hb) with z | z
  ·have h1:=Heap.lt_size e
   have h2:=I.ok.above
   rw [z] at h1
   exact absurd (Nat.lt_of_lt_of_le h1 h2) (Nat.lt_irrefl _)
  ·exact n z
 have nh: ∀b o,X.s₀.heap.get? b=some o→b∉X.fs→b∉hid:=fun b o e n hb=>by
  rcases (hh b hb).1 with z | z
  ·exact hfo b o e n z
  ·rw [e] at z;cases z
 have fsub: ∀b∈X.fs,b∈zO X.stack:=fun b hb=>by
  rw [hst]
  obtain ⟨v,hv,e⟩:=List.mem_filterMap.mp hb
  exact List.mem_filterMap.mpr ⟨v,.tail _ hv,e⟩
 have U:=I.base
 rw [hex] at U
 have no: ∀b:Addr,b∉([]:List Addr):=fun b z=>nomatch z
 have anyway: ∀b o,s.heap.get? b=some o→(b∉hid∨b∈zO X.stack)→∃o',h'.get? b=some o':=fun b o e d=>by
  rcases d with d | d
  ·exact ⟨o,y.keep b o e d⟩
  ·obtain ⟨sl,q⟩:=y.slot b o e d
   exact ⟨_,q⟩
 refine ⟨⟨fun b o e n hb _=>y.keep b o (U.keep b o e n hb (no b)) (nh b o e hb),fun b o e n hb _=>?_,U.free,fun b o e _=>?_,U.tups,U.frzs,U.tbls⟩,fun b o e=>?_,?_,?_⟩
 ·obtain ⟨sl,q⟩:=U.slot b o e n hb (no b)
  obtain ⟨sl',q'⟩:=y.slot b _ q (fsub b hb)
  exact ⟨sl',q'⟩
 ·obtain ⟨o',q⟩:=U.there b o e (no b)
  refine anyway b o' q ?_
  by_cases z:b∈X.fs
  ·exact .inr (fsub b z)
  ·exact .inl (nh b o e z)
 ·refine (I.hok b o e).stay (fun c u hc ec=>y.keep c u ec fun hm=>?_) (fun _ z=>z) fun _ _ z=>z
  have:=(hh c hm).2
  rcases hc with z | z
  ·rw [z,e] at this;cases this
  ·rw [z] at this;cases this
 ·cases q:X.s₀.heap.get? T' with
  | none=>rfl
  | some o=>
   exfalso
   obtain ⟨o',q'⟩:=U.there T' o q (no T')
   by_cases z:T'∈X.fs
   ·exact y.nfr (fsub _ z)
   ·exact y.new T' o' q' (nh T' o q z) rfl
 ·cases q:H T' with
  | none=>rfl
  | some o=>
   exfalso
   obtain ⟨ob,hob⟩:=I.hok.there q
   refine y.new T' ob hob (fun hm=>?_) rfl
   have:=(hh T' hm).2
   rw [q] at this;cases this
theorem zJ:yO (XT P w) (zU (XT P w) P w K mg base N qual scope f cd A outer s0 H0 E) E:=by
 intro pins σ H s e s' I hx
 obtain ⟨a,T,cls,a0,dd,H',rfl,os,bare,un,hok,na,nT,ha,hT,tr,q⟩:=hx
 have I':Inv (zU (XT P w) P w K mg base N qual scope f cd A outer s0 H0 E) pins σ H' s':=I.call' os un hok bare fun b z=>nomatch z
 have old: ∀b,s.heap.get? b=none→s0.heap.get? b=none:=fun b e=>by
  cases z:s0.heap.get? b with
  | none=>rfl
  | some o=>
   obtain ⟨o',q'⟩:=I.base.there b o z fun y=>nomatch y
   rw [e] at q';cases q'
 refine zoo (base:=base) (L:=s0.heap.objs.size) I'.ok.frames I'.stack rfl tr fun h' T' y=>?_
 obtain ⟨u,hk,n1,n2⟩:=I'.left rfl rfl y fun b hb=>by
  rcases List.mem_cons.mp hb with z | hb
  ·rw [z];exact ⟨.inr (old a na),ha⟩
  ·rcases List.mem_cons.mp hb with z | hb
   ·rw [z];exact ⟨.inr (old T nT),hT⟩
   ·exact ⟨.inl hb,I'.stkFree b hb⟩
 exact ⟨a,T',cls,a0,dd,H',rfl,I'.os,I'.bare,u,hk,old a na,n1,ha,n2,y.trc,q⟩
def znj (X:Cx) (E:XK):Prop:=∀(pins:List (Addr×Obj)) (σ:St) (H:Hp) (s:Shared) (a C:Addr) (vs:List Value) (h':Heap),Inv X pins σ H s→Heap.MadeExcOf s.heap h' a (.ref C) vs→E (.ref C) none H→X.xe (.ref a) {s with heap:=h'}
theorem zll:znj (zU (XT P w) P w K mg base N qual scope f cd A outer s0 H0 E) E:=by
 intro pins σ H s a C vs h' I mk q
 have I':Inv (zU (XT P w) P w K mg base N qual scope f cd A outer s0 H0 E) pins σ H {s with heap:=h'}:=I.kept (t':=s.toks) mk.keeps
 have na:H a=none:=I.hok.untracked mk.new
 have old:s0.heap.get? a=none:=by
  cases z:s0.heap.get? a with
  | none=>rfl
  | some o=>
   obtain ⟨o',q'⟩:=I.base.there a o z fun y=>nomatch y
   rw [mk.new] at q';cases q'
 obtain ⟨t,ht,_,_⟩:=mk.there
 refine zlp (base:=base) (L:=s0.heap.objs.size) (a0:= .ref t) I'.ok.frames I'.stack rfl ht rfl rfl rfl fun h'' T' y=>?_
 obtain ⟨u,hk,n1,n2⟩:=I'.left rfl rfl y fun b hb=>by
  rcases List.mem_cons.mp hb with z | hb
  ·rw [z];exact ⟨.inr old,na⟩
  ·exact ⟨.inl hb,I'.stkFree b hb⟩
 exact ⟨a,T',.ref C,_,none,H,rfl,I'.os,I'.bare,u,hk,old,n1,na,n2,y.trc,q⟩
end
abbrev bmV:List Value:=[.type "ValueError",.type "Exception",.type "BaseException",.type "object"]
structure XCl (K:PySem.W.Frag) (mg:Str→Option Value) (x:Str) (C:Addr):Prop where
 ex:PySem.W.excIn K C bmV "ValueError.__new__" =true
 gl:mg x=some (.ref C)
theorem XCl.own {K:PySem.W.Frag} {mg:Str→Option Value} {x:Str} {C:Addr} {h:Heap} (c:XCl K mg x C) (X:K.In h):OwnCls x C bmV "ValueError.__new__" mg h:=by
 have q:=c.ex
 unfold PySem.W.excIn at q
 split at q
 case h_2=>cases q
 case h_1 dd cd sl ho=>
  split at q
  case h_2=>cases q
  case h_1 C' bm y0 y1 y2 y3 n y5 hm hs=>
   simp only [Bool.and_eq_true,beq_iff_eq,Bool.not_eq_true'] at q
   obtain ⟨⟨⟨⟨⟨e1,e2⟩,hdel⟩,ht⟩,hok⟩,hni⟩:=q
   subst e1
   subst e2
   cases cd with
   | mk nm bs mro ns qn hd sn sub ab col del=>
   simp only at hm hdel hok hni
   cases hm
   cases hdel
   have e:sl= #[y0,y1,y2,y3,some (.builtin "ValueError.__new__"),y5]:=Array.ext' hs
   cases e
   exact ⟨c.gl,bm,ns,nm,qn,bs,hd,sn,sub,ab,col,dd,y0,y1,y2,y3,y5,h.nsMap ns,X _ _ ho,.of_isNs (PySem.W.isNs_of_in X hok),PySem.W.nsMap_none_of_in X hok hni,PySem.W.tail_of_in X ht⟩
section
variable {X:Cx} {x:Str} {C:Addr} {np cpos pos:Pos} {e:Expr} {es:List Expr} {ta:TA} {E:XK}
def zue (C:Addr) (E:XK) (ta:TA):TS:=fun _ σ H=>ta σ H fun vs H1=>vs.length≤1000∧E (.ref C) none H1
theorem zny (c:XCl X.K X.mg x C) (hc:X.calm=true) (hg:Gl X x) (hr:znj X E) (ha:PA X (e::es) ta) (hs:starEach (e::es) X.env=(false,eval e X.env)::starEach es X.env:=by rfl) (hp:(backTo cpos (starEach es X.env)).any (·.1)=false:=by rfl)
  (hd:(x==("__debug__" :Str))=false:=by decide):PS X (.Raise (some (.Call (.Name x np) (e::es) [] cpos)) none pos) (zue C E ta):=by
 intro pins s σ H D I h
 obtain ⟨tl,N,nm,q,bs,hdct,sn,sub,ab,col,dd,k0,k1,k2,k3,k5,mN,hC,hN,hni,T⟩:=(c.own I.ok.mod.kin).obj
 refine wpAny_Raise_call_subT PySem.F.excBase_ValueError (bm:=tl) (mN:=mN) (C:=C) (N:=N) (k5:=k5) (k3:=k3) (k2:=k2) (k1:=k1) (k0:=k0) (dd:=dd) (col:=col) (ab:=ab) (sub:=sub) (sn:=sn) (hdct:=hdct) (bs:=bs) (q:=q) (nm:=nm) (T.hasType (by decide)) (I.ok.hd hc) (by rw [hs];show (false || _)=false;rw [Bool.false_or];exact hp) hni (zer I hg c.gl ⟨rfl,?_⟩ hd)
 rw [hs]
 refine Calls.evalArgs_plain (zo (by have:=ha cpos pins s σ H _ I h;rw [hs] at this;exact this) fun us s1 z=>?_)
 obtain ⟨vs,H1,I1,rv,hl,q1⟩:=z
 exact ⟨rfl,by show us.length≤sizeLine;rw [←rv.length];exact Nat.le_of_lt (zm5 hl),I1.bk _ _ hC,hN.keeps I1.bk,T.keeps I1.bk,fun h' a mk=>hr pins σ H1 s1 a C us h' I1 mk q1⟩
end
theorem Fun.okX {P:Program} {w:World} {K:PySem.W.Frag} {mg:Str→Option Value} {base:Heap} {x qual:Str} {st:Stmt} {f:Addr} {fd:FuncData} {N ps:List Str} {k:Nat} {sp:Sp} (F:Fun K x qual st f fd) (S:FnScope N ps (zw st)) (len: ∀vs H Q E,sp vs H Q E→vs.length=ps.length)
  (hbody: ∀(cdv:Value) (A:Around) (outer:List Env) (s:Shared) (H:Hp) (vs:List V) (Q:VK) (E:XK),Room k (A.deeper (envOfC qual (zw st) s.heap.objs.size f cdv))→sp vs H Q E→
   ∃t,z8 (zU (XT P w) P w K mg base N qual (zw st) f cdv A outer s H E) (yX st) t∧t {nx:=fun _ H'=>Q .non H',rt:=Q} (start N vs) H):FnOk P w K mg base (XT P w) (k+1) f fd ps sp:=by
 obtain ⟨oc,od,kV,doc,pm,an,cdv,ct,osl,rfl,lk,hcd⟩:=F.ex
 exact zva lk hcd S len fun A outer s H vs Q E hr hsp=>hbody cdv A outer s H vs Q E hr hsp
theorem zqz {fs hid:List Addr} {H H':Hp} {h h1 h2:Heap} (u:Un fs [] H H' h h1) (keep: ∀b o,h1.get? b=some o→b∉hid→h2.get? b=some o)
  (slot: ∀b o,h1.get? b=some o→b∈fs→∃sl,h2.get? b=some {o with slots:=sl}) (hh: ∀b∈hid,b∈fs∨h.get? b=none):Un fs [] H H' h h2:=by
 have no: ∀b:Addr,b∉([]:List Addr):=fun b z=>nomatch z
 have nh: ∀b o,h.get? b=some o→b∉fs→b∉hid:=fun b o e n hb=>by
  rcases hh b hb with z | z
  ·exact n z
  ·rw [e] at z;cases z
 refine ⟨fun b o e n hb _=>keep b o (u.keep b o e n hb (no b)) (nh b o e hb),fun b o e n hb _=>?_,u.free,fun b o e _=>?_,u.tups,u.frzs,u.tbls⟩
 ·obtain ⟨sl,q⟩:=u.slot b o e n hb (no b)
  obtain ⟨sl',q'⟩:=slot b _ q hb
  exact ⟨sl',q'⟩
 ·obtain ⟨o',q⟩:=u.there b o e (no b)
  by_cases z:b∈fs
  ·obtain ⟨sl,q'⟩:=slot b o' q z
   exact ⟨_,q'⟩
  ·exact ⟨o',keep b o' q (nh b o e z)⟩
theorem zn4 {P:Program} {w:World} {H:Hp} {h1 h2:Heap} {hid:List Addr} (k:HOk P w H h1) (keep: ∀b o,h1.get? b=some o→b∉hid→h2.get? b=some o) (hh: ∀b∈hid,H b=none):HOk P w H h2:=fun b o e=>by
 refine (k b o e).stay (fun c u hc ec=>keep c u ec fun hm=>?_) (fun _ z=>z) fun _ _ z=>z
 have:=hh c hm
 rcases hc with z | z
 ·rw [z,e] at this;cases this
 ·rw [z] at this;cases this
section
variable {X:Cx} {pins:List (Addr×Obj)} {σ:St} {H:Hp} {s:Shared}
abbrev Cx.pinned (X:Cx) (pn:List (Addr×Obj)):Cx:={X with pn:=pn}
abbrev Cx.suite (X:Cx) (e:Value):Cx:={X with A:=X.A.mark (some e),calm:=false}
theorem Inv.inPn (I:Inv X pins σ H s):Inv (X.pinned (X.pn++pins)) [] σ H s:=
 ⟨⟨I.ok.mod,I.ok.kind,I.ok.glob,I.ok.blt,I.ok.above,I.ok.inj,I.ok.has,I.ok.cab,I.ok.hd,I.ok.frames,I.ok.stk,I.ok.exf,I.ok.bs,I.ok.bsz,I.ok.noex,I.ok.exfs,I.ok.funs,I.ok.frf⟩,I.os,I.bare,I.base,I.loc,I.cell,I.free,I.freeC,fun p hp=>I.pin p (by rw [List.append_nil] at hp;exact hp),I.hok,I.len⟩
theorem Inv.unpin {ps:List (Addr×Obj)} (I:Inv (X.pinned (X.pn++pins)) ps σ H s):Inv X pins σ H s:=
 ⟨⟨I.ok.mod,I.ok.kind,I.ok.glob,I.ok.blt,I.ok.above,I.ok.inj,I.ok.has,I.ok.cab,I.ok.hd,I.ok.frames,I.ok.stk,I.ok.exf,I.ok.bs,I.ok.bsz,I.ok.noex,I.ok.exfs,I.ok.funs,I.ok.frf⟩,I.os,I.bare,I.base,I.loc,I.cell,I.free,I.freeC,fun p hp=>I.pin p (List.mem_append_left _ hp),I.hok,I.len⟩
theorem Inv.suite (I:Inv X pins σ H s) (e:Value):Inv (X.suite e) pins σ H s:=
 ⟨⟨I.ok.mod,I.ok.kind,I.ok.glob,I.ok.blt,I.ok.above,I.ok.inj,I.ok.has,I.ok.cab,(fun z=>Bool.noConfusion z),I.ok.frames,I.ok.stk,I.ok.exf,I.ok.bs,I.ok.bsz,I.ok.noex,I.ok.exfs,I.ok.funs,I.ok.frf⟩,I.os,I.bare,I.base,I.loc,I.cell,I.free,I.freeC,I.pin,I.hok,I.len⟩
theorem Inv.unsuite {e:Value} (hc:X.calm=true→X.A.handled=none) (I:Inv (X.suite e) pins σ H s):Inv X pins σ H s:=
 ⟨⟨I.ok.mod,I.ok.kind,I.ok.glob,I.ok.blt,I.ok.above,I.ok.inj,I.ok.has,I.ok.cab,hc,I.ok.frames,I.ok.stk,I.ok.exf,I.ok.bs,I.ok.bsz,I.ok.noex,I.ok.exfs,I.ok.funs,I.ok.frf⟩,I.os,I.bare,I.base,I.loc,I.cell,I.free,I.freeC,I.pin,I.hok,I.len⟩
theorem SP.conv {Y:Cx} {ps:List (Addr×Obj)} {D:Ends} {f:Flow} {s':Shared} (k: ∀σ' H',Inv Y ps σ' H' s'→Inv X pins σ' H' s') (h:SP Y ps D f s'):SP X pins D f s':=by
 cases f with
 | next=>obtain ⟨σ',H',I,q⟩:=h;exact ⟨σ',H',k _ _ I,q⟩
 | brk=>obtain ⟨σ',H',I,q⟩:=h;exact ⟨σ',H',k _ _ I,q⟩
 | cont=>obtain ⟨σ',H',I,q⟩:=h;exact ⟨σ',H',k _ _ I,q⟩
 | ret u=>obtain ⟨v,σ',H',I,r,q⟩:=h;exact ⟨v,σ',H',k _ _ I,r,q⟩
end
def zu2 (a:Addr) (cls:Value) (dd:Option Addr):Heap→Prop:=fun h=> ∃o vs,h.get? a=some o∧o.cls=cls∧o.data= .fields vs∧o.dict=dd
abbrev excO (a:Addr) (cls:Value) (dd:Option Addr):HO:= .ext (zu2 a cls dd)
def zg6 (CX:yu) (X:Cx) (σ₀:St) (E:XK):Prop:=∀(pins:List (Addr×Obj)) (H:Hp) (s:Shared) (e:Value) (s':Shared),Inv X pins σ₀ H s→CX X.stack H s E e s'→X.xe e s'
def zd2 (X:Cx) (pn:List (Addr×Obj)) (σ₀:St) (E:XK):Value→Shared→Prop:=fun e s1=> ∃pins H s,Inv (X.pinned pn) pins σ₀ H s∧XT X.prog X.w X.stack H s E e s1
theorem zud {X:Cx} {pn:List (Addr×Obj)} {σ₀:St} {E:XK}:zg6 (XT X.prog X.w) ((X.pinned pn).wish (zd2 X pn σ₀ E)) σ₀ E:=fun pins H s e s' I h=>⟨pins,H,s,I.unwish,h⟩
structure Caught (X:Cx) (pins:List (Addr×Obj)) (σ:St) (H:Hp) (a:Addr) (cls:Value) (dd:Option Addr) (s:Shared):Prop where
 inv:Inv X pins σ H s
 fly: ∃B a0,yQ B (X.env::X.outer) a cls a0 dd .none s.heap∧∀h',yQ B (X.env::X.outer) a cls a0 dd .none h'→s.heap.UpToSlots h'→Inv X pins σ H {s with heap:=h'}
 free:H a=none
 old:X.s₀.heap.get? a=none
 loc:a≠X.env.locals
 cel: ∀x c,X.env.cells.lookup x=some c→c≠a
 pin: ∀p∈X.pn++pins,p.1≠a
def PHs (X:Cx) (hs:List ExceptHandler) (th:Value→Option Addr→TS):Prop:=∀(pins:List (Addr×Obj)) (σ:St) (H:Hp) (s:Shared) (D:Ends) (a:Addr) (cls:Value) (dd:Option Addr),Caught X pins σ H a cls dd s→th cls dd D σ H→wpAny (model X.prog X.w) X.A (handleBy (.ref a) X.env hs) (SP X pins D) X.xe s
section
variable {X:Cx} {x:Str} {B:Addr} {np hp pos:Pos} {b:List Stmt} {b₀:Stmt} {suite:List Stmt} {hs:List ExceptHandler} {th:TS} {tr:Value→Option Addr→TS}
abbrev xNil:Value→Shared→Prop:=fun _ _=>False
def zux (K:PySem.W.Frag) (B:Addr) (th:Value→Option Addr→TS) (tr:Value→Option Addr→TS):Value→Option Addr→TS:=fun cls dd D σ H=>(PySem.W.exmOne K cls (.ref B)=some true∧th cls dd D σ H)∨(PySem.W.exmOne K cls (.ref B)=some false∧tr cls dd D σ H)
theorem Caught.looks {pins:List (Addr×Obj)} {σ:St} {H:Hp} {a:Addr} {cls:Value} {dd:Option Addr} {s:Shared} {bb:Bool} (c:Caught X pins σ H a cls dd s) (hx:PySem.W.exmOne X.K cls (.ref B)=some bb):PySem.W.Looks (model X.prog X.w) s.heap (excMatches (.ref a) (.ref B)) bb:=by
 obtain ⟨Bs,a0,fly,_⟩:=c.fly
 obtain ⟨_,_,_,ob,_,_,_,_,hob,⟨hobc,_⟩,_⟩:=fly
 refine PySem.W.exm_one c.inv.kIn ?_ hx
 have:=(PySem.W.Looks.ld (M:=model X.prog X.w) (part:=none) hob)
 rw [←hobc]
 exact this.andThen .now
theorem zqe (hg:Gl X x) (hm:X.mg x=some (.ref B)) (hs0: ∀e,z8 ((X.suite e).wish xNil) (b₀::suite) th) (hr:PHs X hs tr) (hd:(x==("__debug__" :Str))=false:=by decide):
  PHs X (.ExceptHandler (some (.Name x np)) none (b₀::suite) hp::hs) (zux X.K B (fun _ _=>th) tr):=by
 intro pins σ H s D a cls dd c h
 refine wpAny_handleBy_cons (codeAny_handlers_test (zer (X:=X.suite (.ref a)) (c.inv.suite (.ref a)) hg hm ?_ hd)) (by intro z;cases z)
 rcases h with ⟨hx,h⟩ | ⟨hx,h⟩
 ·refine (c.looks hx).here (codeAny_handlers_suite ?_)
  obtain ⟨Bs,a0,fly,back⟩:=c.fly
  refine zjp none fly fun h6 fly6 sm6=>?_
  have I6:=back h6 fly6 sm6
  refine wpAny_mono (hs0 (.ref a) pins _ σ H D ((I6.suite (.ref a)).wish xNil) h) (fun f s7 q7=>?_) fun _ _ z=>z.elim
  exact SP.conv (fun σ' H' K=>Inv.unsuite c.inv.ok.hd K.unwish) q7
 ·exact (c.looks hx).here (hr pins σ H s D a cls dd c h)
theorem zqp:PHs X [] (fun _ _ _ _ _=>False):=fun _ _ _ _ _ _ _ _ _ h=>h.elim
theorem zog {h₀:ExceptHandler} {tb:XK→TS} (hst:X.stack=X.env::X.outer) (hfm:X.env.frame=some X.env.locals) (hex:X.ex=[])
  (hb: ∀pn σ₀ E,z8 ((X.pinned pn).wish (zd2 X pn σ₀ E)) b (fun D σ H=>σ=σ₀∧tb E D σ H)) (hh:PHs X (h₀::hs) tr):
  PS X (.Try b (h₀::hs) [] [] pos) (fun D σ H=>tb (fun cls dd H'=>tr cls dd D σ H') D σ H):=by
 intro pins s σ H D I h
 have J:Inv ((X.pinned (X.pn++pins)).wish (zd2 X (X.pn++pins) σ fun cls dd H'=>tr cls dd D σ H')) [] σ H s:=I.inPn.wish _
 refine wpAny_Try_except (wpAny_mono (hb (X.pn++pins) σ _ [] s σ H D J ⟨rfl,h⟩) (fun f s1 q=>?_) fun e s1 q=>?_)
 ·have q':SP X pins D f s1:=SP.conv (fun σ' H' K=>Inv.unpin K.unwish) q
  cases f with
  | next=>exact wpAny_pure q'
  | brk=>exact q'
  | cont=>exact q'
  | ret u=>exact q'
 ·obtain ⟨pins2,H2,s2,I2,a,T,cls,a0,dd,H',rfl,os,bare,un,hok,na,nT,ha,hT,tr',q⟩:=q
  have I3:Inv (X.pinned (X.pn++pins)) pins2 σ H' s1:=I2.call' os un hok bare fun b z=>nomatch z
  have hfr:s1.heap.FunFrames X.base X.stack:=I3.stack
  obtain ⟨oe,vs,oT,ts,t1,t2,t3,t4,t6,t7,t8,t9⟩:=tr'
  have fly:yQ (PySem.W.hideAll s1.heap (a::T::zO X.stack)) X.stack a cls a0 dd .none s1.heap:=
   ⟨fun b o z=>PySem.W.of_hideAll _ z,PySem.W.hideAll_none _ (.head _),PySem.W.funFrames_hide hfr fun e he b hb=> .tail _ (.tail _ (ziv e he b hb)),oe,vs,T,oT,ts,t1,t2,t3,t4,PySem.W.hideAll_none _ (.tail _ (.head _)),t6,t7,t8,t9⟩
  have hfrm:X.A.frames=some (X.env::X.outer):=by rw [←hst];exact I.ok.frames
  have back: ∀h',yQ (PySem.W.hideAll s1.heap (a::T::zO X.stack)) X.stack a cls a0 dd .none h'→s1.heap.UpToSlots h'→Inv X pins σ H' {s1 with heap:=h'}:=fun h' f u=>by
   have keep: ∀b o,s1.heap.get? b=some o→b∉a::T::zO X.stack→h'.get? b=some o:=fun b o e n=>f.1 b o (PySem.W.hideAll_get _ e n)
   have slot: ∀b o,s1.heap.get? b=some o→b∈zO X.stack→∃sl,h'.get? b=some {o with slots:=sl}:=fun b o e hb=>by
    refine u b o e fun ws hv=>?_
    obtain ⟨_,o',ho',hn⟩:=hfr.mem hb
    rw [e] at ho'
    cases ho'
    exact hn ws hv
   have un':Un (zO X.stack) [] H2 H' s2.heap h':=zqz un keep slot fun b hb=>by
    rcases List.mem_cons.mp hb with z | hb
    ·rw [z];exact .inr na
    ·rcases List.mem_cons.mp hb with z | hb
     ·rw [z];exact .inr nT
     ·exact .inl hb
   have hok':HOk X.prog X.w H' h':=zn4 hok keep fun b hb=>by
    rcases List.mem_cons.mp hb with z | hb
    ·rw [z];exact ha
    ·rcases List.mem_cons.mp hb with z | hb
     ·rw [z];exact hT
     ·exact I3.stkFree b hb
   have I4:Inv (X.pinned (X.pn++pins)) pins2 σ H' {s1 with heap:=h'}:=I2.call' os un' hok' bare fun b z=>nomatch z
   exact I4.unpin
  rw [hst] at fly
  refine ztj hfrm hfm fly fun h4 held4 sm4=>?_
  refine zjp none held4 fun h5 fly5 sm5=>?_
  have sm45:=sm4.trans sm5
  have I5:Inv X pins σ H' {s1 with heap:=h5}:=back h5 (by rw [hst];exact fly5) sm45
  have ne2: ∀b o,s2.heap.get? b=some o→b≠a:=fun b o e z=>by rw [z,na] at e;cases e
  refine hh pins σ H' _ D a cls dd ⟨I5,⟨_,_,fly5,fun h' f u=>back h' (by rw [hst];exact f) (sm45.trans u)⟩,ha,?_,?_,?_,?_⟩ q
  ·cases z:X.s₀.heap.get? a with
   | none=>rfl
   | some o=>
    have U:=I2.base
    obtain ⟨o',q'⟩:=U.there a o z fun y=>by rw [show (X.pinned (X.pn++pins)).ex=X.ex from rfl,hex] at y;cases y
    rw [na] at q';cases q'
  ·intro z
   obtain ⟨m,⟨o,es,ep,e,_⟩,_⟩:=I2.loc
   exact ne2 _ o e z.symm
  ·intro y c e z
   obtain ⟨w',hw⟩:=I2.cell y c e
   obtain ⟨o,e1,_⟩:=hw
   exact ne2 _ o e1 z
  ·intro p hp z
   have e:=(I2.pin p (List.mem_append_left _ hp)).1
   exact ne2 _ _ e z
end
structure ExK (K:PySem.W.Frag) (C:Addr):Prop where
 it:(PySem.W.clsIn K C).isSome=true
 ga:PySem.W.findIn K (.ref C) "__getattribute__" =some (some (.builtin "BaseException.__getattribute__"))
 gn:PySem.W.findIn K (.ref C) "__getattr__" =some none
 gc:PySem.W.findIn K (.ref C) "__class__" =some (some (.builtin "object.__class__"))
 sb:PySem.W.subIn K (.ref C) (.type "BaseException")=some true
 so:PySem.W.subIn K (.ref C) (.type "object")=some true
 sw:PySem.W.subIn K (.ref C) (.type "ValueError")=some true
def zl5:List Value→Bool
 | .ref _::r=>zl5 r
 | l=>l==bmV
section
variable {X:Cx} {tg:Expr}
def rSlS:V→Option Int→Option Int→Hp→VK→Prop:=fun x lo hi H Q=> ∃z,x= .str z∧z.length≤sizeLine∧Q (.str (Txt.slice z lo hi)) H
theorem zm6 {v:Value} {o:Option Int} (h:IsPart v o): ∃p:Option (Int×Tok),v=partValue p∧p.map (·.1)=o:=by
 cases h with
 | none=>exact ⟨none,rfl,rfl⟩
 | int i t=>exact ⟨some (i,t),rfl,rfl⟩
theorem zsz:SlR X rSlS:=by
 intro pins s σ H x v vl vu lo hi sl Q I rx hs pl pu h
 obtain ⟨z,rfl,hz,q⟩:=h
 obtain ⟨t,rfl⟩:=rx
 obtain ⟨p,rfl,rfl⟩:=zm6 pl
 obtain ⟨p',rfl,rfl⟩:=zm6 pu
 refine ⟨"str",_,slot_str_getitem.lookup,typeIs_str _ _ _,?_⟩
 refine wpAny_getItem_str_slice (l:=p) (u:=p') (st:=none) hs rfl ?_
 exact post_val_or_str ⟨Nat.le_trans (Txt.slice_le z _ _) hz,fun t' k=>⟨.str (Txt.slice z (p.map (·.1)) (p'.map (·.1))),H,I.tok k,⟨t',rfl⟩,q⟩⟩
end
end L2
namespace L2
open PySem PySem.Spec PySem.W PyProof.Rows
theorem Paired.of_get {α β:Type} {F:α→β→Prop}: ∀{l:List α} {m:List β},l.length=m.length→(∀(i:Nat) a b,l[i]? =some a→m[i]? =some b→F a b)→PySem.Paired F l m
 | [],[],_,_=> .nil
 | [],_::_,h,_=>by simp at h
 | _::_,[],h,_=>by simp at h
 | a::l,b::m,h,f=> .cons (f 0 a b rfl rfl) (Paired.of_get (by simpa using h) fun i x y hx hy=>f (i+1) x y (by simpa using hx) (by simpa using hy))
end L2
namespace L3
open PySem L2
inductive V3 where
 | non | bl (b:Bool) | int (i:Int) | str (x:Str) | ty (n:String)
 | tup (xs:List V3) | lst (xs:List V3) | scr (ns:List Int)
 | dK (kvs:List (yd×V3)) | dT (kvs:List (MK×V3))
 | obj (c:Str) (fs:List (Str×V3)) | cls (c:Str) | fn (n:Str) (env:List V3)
 | loc (n:Nat)
inductive C3 where
 | lst (xs:List V3) | dK (kvs:List (yd×V3)) | dT (kvs:List (MK×V3)) | ins (c:Str) (fs:List (Str×V3)) | dead | tab
inductive Vl where
 | v (x:V3) | m (c:C3)
structure X3 where
 c:Str
 nm:Option V3
abbrev S3:=List (Option Vl)
abbrev H3:=List C3
inductive Res (α:Type) where
 | ok (r:α) (h:H3) | ex (x:X3) (h:H3) | no
abbrev E3:=S3→H3→Res Vl
def C3.fz:C3→Option V3
 | .lst xs=>some (.lst xs)
 | .dK kvs=>some (.dK kvs)
 | .dT kvs=>some (.dT kvs)
 | .ins c fs=>some (.obj c fs)
 | .dead=>none
 | .tab=>none
def Vl.fz:Vl→Option V3
 | .v x=>some x
 | .m c=>c.fz
def Res.bind {α β:Type} (r:Res α) (k:α→H3→Res β):Res β:=match r with
 | .ok r h=>k r h
 | .ex x h=> .ex x h
 | .no=> .no
structure Kx where
 K:PySem.W.Frag
 cl:Str→Option Addr
 tb:Addr:=0
 clo:Option (Addr×List V):=none
def KnL (K:PySem.W.Frag) (a:Addr) (ns:List Int):Prop:=
 ∃(o:Obj) (its:Array Value) (n:Nat),K.lookup a=some o∧o.cls= .type "list" ∧o.dict=none∧o.data= .seq its n∧its.size≤sizeLine∧Vals (ns.map V.int) its.toList
def XD (β:List (Option Addr)) (O:Addr→Prop) (H:Hp) (dd:Option Addr) (fs:List V3):Prop:=match dd with
 | none=>fs=[]
 | some d=> ∃z:Str,fs=[.str z]∧H d=some (.xd [(("name" :Str),V.str z)])∧some d∉β∧¬O d
theorem XD.imp {β β':List (Option Addr)} {O O':Addr→Prop} {H H':Hp} {dd:Option Addr} {fs:List V3} (x:XD β O H dd fs) (k: ∀d o,H d=some o→some d∉β→¬O d→H' d=some o∧some d∉β'∧¬O' d):XD β' O' H' dd fs:=by
 cases dd with
 | none=>exact x
 | some d=>
  obtain ⟨z,e,h,n,q⟩:=x
  obtain ⟨h1,n1,q1⟩:=k d _ h n q
  exact ⟨z,e,h1,n1,q1⟩
mutual
inductive Rep (κ:Kx) (β:List (Option Addr)) (O:Addr→Prop) (H:Hp):V3→V→Prop
 | non:Rep κ β O H .non .non
 | bl (b:Bool):Rep κ β O H (.bl b) (.bl b)
 | int (i:Int):Rep κ β O H (.int i) (.int i)
 | str (x:Str):Rep κ β O H (.str x) (.str x)
 | ty (n:String):Rep κ β O H (.ty n) (.ty n)
 | tup {xs:List V3} {ys:List V} {a:Addr}:H a=some (.tup ys)→some a∉β→¬O a→Reps κ β O H xs ys→Rep κ β O H (.tup xs) (.ref a)
 | lst {xs:List V3} {ys:List V} {a:Addr}:H a=some (.lst ys)→some a∉β→¬O a→Reps κ β O H xs ys→Rep κ β O H (.lst xs) (.ref a)
 | scr {ns:List Int} {a:Addr} {o:Obj}:H a=some (.frz o (.lst (ns.map V.int)))→some a∉β→¬O a→Rep κ β O H (.scr ns) (.ref a)
 | scrK {ns:List Int} {a:Addr}:KnL κ.K a ns→Rep κ β O H (.scr ns) (.ref a)
 | dK {kvs:List (yd×V3)} {ws:List (yd×V)} {a:Addr}:H a=some (.dK ws)→some a∉β→¬O a→RepP κ β O H kvs ws→Rep κ β O H (.dK kvs) (.ref a)
 | dT {kvs:List (MK×V3)} {ws:List (MK×V)} {a:Addr}:H a=some (.dT ws)→some a∉β→¬O a→RepP κ β O H kvs ws→Rep κ β O H (.dT kvs) (.ref a)
 | obj {c:Str} {C:Addr} {fs:List (Str×V3)} {gs:List (Str×V)} {a dx:Addr}:κ.cl c=some C→H a=some (.ins C dx gs)→some a∉β→¬O a→RepP κ β O H fs gs→Rep κ β O H (.obj c fs) (.ref a)
 | cls {c:Str} {C:Addr}:κ.cl c=some C→Rep κ β O H (.cls c) (.ref C)
 | exc {c:Str} {C a:Addr} {dd:Option Addr} {fs:List V3}:κ.cl c=some C→H a=some (excO a (.ref C) dd)→some a∉β→¬O a→XD β O H dd fs→Rep κ β O H (.fn c fs) (.ref a)
 | clo {f:Addr} {us:List V} {vs:List V3}:κ.clo=some (f,us)→Reps κ β O H vs us→Rep κ β O H (.fn ("<fn>" :Str) vs) (.ref f)
 | loc {n:Nat} {v:V}:n < β.length→(∀a,β[n]? =some (some a)→v= .ref a)→Rep κ β O H (.loc n) v
inductive Reps (κ:Kx) (β:List (Option Addr)) (O:Addr→Prop) (H:Hp):List V3→List V→Prop
 | nil:Reps κ β O H [] []
 | cons {x:V3} {y:V} {xs:List V3} {ys:List V}:Rep κ β O H x y→Reps κ β O H xs ys→Reps κ β O H (x::xs) (y::ys)
inductive RepP (κ:Kx) (β:List (Option Addr)) (O:Addr→Prop) (H:Hp):{α:Type}→List (α×V3)→List (α×V)→Prop
 | nil {α:Type}:RepP κ β O H (α:=α) [] []
 | cons {α:Type} {k:α} {x:V3} {y:V} {xs:List (α×V3)} {ys:List (α×V)}:Rep κ β O H x y→RepP κ β O H xs ys→RepP κ β O H ((k,x)::xs) ((k,y)::ys)
end
structure Ext (M:Addr→Prop) (β:List (Option Addr)) (H:Hp) (β':List (Option Addr)) (H':Hp):Prop where
 keep: ∀a o,H a=some o→some a∉β→¬M a→H' a=some o∧some a∉β'
 len:β.length≤β'.length
 bet: ∀i a,i < β.length→β'[i]? =some (some a)→β[i]? =some (some a)
 there: ∀a o,H a=some o→∃o',H' a=some o'
 nwb: ∀(i:Nat) a,β.length≤i→β'[i]? =some (some a)→H a=none
theorem nwb0 {β:List (Option Addr)} {H:Hp}: ∀(i:Nat) a,β.length≤i→β[i]? =some (some a)→H a=none:=fun i a h e=>by
 have:=(List.getElem?_eq_some_iff.mp e).1;omega
abbrev No:Addr→Prop:=fun _=>False
theorem Ext.refl {M:Addr→Prop} {β:List (Option Addr)} {H:Hp}:Ext M β H β H:=⟨fun _ _ h n _=>⟨h,n⟩,Nat.le_refl _,fun _ _ _ h=>h,fun _ o h=>⟨o,h⟩,nwb0⟩
theorem zh0 {β β1 β2:List (Option Addr)} {H H1:Hp} (t: ∀a o,H a=some o→∃o',H1 a=some o') (bet: ∀i a,i < β1.length→β2[i]? =some (some a)→β1[i]? =some (some a)) (n1: ∀(i:Nat) a,β.length≤i→β1[i]? =some (some a)→H a=none)
  (n2: ∀(i:Nat) a,β1.length≤i→β2[i]? =some (some a)→H1 a=none): ∀(i:Nat) a,β.length≤i→β2[i]? =some (some a)→H a=none:=fun i a hi h=>by
 by_cases h1:i < β1.length
 ·exact n1 i a hi (bet i a h1 h)
 ·cases w:H a with
  | none=>rfl
  | some o=>
   obtain ⟨o',z⟩:=t a o w
   rw [n2 i a (by omega) h] at z;cases z
theorem Ext.trans0 {β β1 β2:List (Option Addr)} {H H1 H2:Hp} (a:Ext No β H β1 H1) (b:Ext No β1 H1 β2 H2):Ext No β H β2 H2:=
 ⟨fun x o h n m=>let ⟨h1,n1⟩:=a.keep x o h n m;b.keep x o h1 n1 m,Nat.le_trans a.len b.len,fun i x hi h=>a.bet i x hi (b.bet i x (Nat.lt_of_lt_of_le hi a.len) h),fun x o h=>let ⟨o1,h1⟩:=a.there x o h;b.there x o1 h1,zh0 a.there (fun i x hi h=>b.bet i x hi h) a.nwb b.nwb⟩
section
variable {κ:Kx} {β β':List (Option Addr)} {O O':Addr→Prop} {H H':Hp} {M:Addr→Prop}
mutual
theorem Rep.ext (e:Ext M β H β' H') (hM: ∀a,M a→O a) (hO: ∀a o,H a=some o→¬O a→¬O' a): ∀{x:V3} {y:V},Rep κ β O H x y→Rep κ β' O' H' x y
 | _,_,.non=> .non
 | _,_,.bl b=> .bl b
 | _,_,.int i=> .int i
 | _,_,.str x=> .str x
 | _,_,.ty n=> .ty n
 | _,_,.tup h n o r=>let ⟨h1,n1⟩:=e.keep _ _ h n fun m=>o (hM _ m);.tup h1 n1 (hO _ _ h o) (Reps.ext e hM hO r)
 | _,_,.lst h n o r=>let ⟨h1,n1⟩:=e.keep _ _ h n fun m=>o (hM _ m);.lst h1 n1 (hO _ _ h o) (Reps.ext e hM hO r)
 | _,_,.scr h n o=>let ⟨h1,n1⟩:=e.keep _ _ h n fun m=>o (hM _ m);.scr h1 n1 (hO _ _ h o)
 | _,_,.scrK h=> .scrK h
 | _,_,.dK h n o r=>let ⟨h1,n1⟩:=e.keep _ _ h n fun m=>o (hM _ m);.dK h1 n1 (hO _ _ h o) (RepP.ext e hM hO r)
 | _,_,.dT h n o r=>let ⟨h1,n1⟩:=e.keep _ _ h n fun m=>o (hM _ m);.dT h1 n1 (hO _ _ h o) (RepP.ext e hM hO r)
 | _,_,.obj k h n o r=>let ⟨h1,n1⟩:=e.keep _ _ h n fun m=>o (hM _ m);.obj k h1 n1 (hO _ _ h o) (RepP.ext e hM hO r)
 | _,_,.cls k=> .cls k
 | _,_,.exc k h n o x=>let ⟨h1,n1⟩:=e.keep _ _ h n fun m=>o (hM _ m);.exc k h1 n1 (hO _ _ h o) (x.imp fun d u h n q=>let ⟨h1,n1⟩:=e.keep d u h n fun m=>q (hM _ m);⟨h1,n1,hO d u h q⟩)
 | _,_,.clo k r=> .clo k (Reps.ext e hM hO r)
 | _,_,.loc l h=> .loc (Nat.lt_of_lt_of_le l e.len) fun a q=>h a (e.bet _ _ l q)
theorem Reps.ext (e:Ext M β H β' H') (hM: ∀a,M a→O a) (hO: ∀a o,H a=some o→¬O a→¬O' a): ∀{x:List V3} {y:List V},Reps κ β O H x y→Reps κ β' O' H' x y
 | _,_,.nil=> .nil
 | _,_,.cons a r=> .cons (Rep.ext e hM hO a) (Reps.ext e hM hO r)
theorem RepP.ext (e:Ext M β H β' H') (hM: ∀a,M a→O a) (hO: ∀a o,H a=some o→¬O a→¬O' a): ∀{α:Type} {x:List (α×V3)} {y:List (α×V)},RepP κ β O H x y→RepP κ β' O' H' x y
 | _,_,_,.nil=> .nil
 | _,_,_,.cons a r=> .cons (Rep.ext e hM hO a) (RepP.ext e hM hO r)
end
end
section
variable {κ:Kx} {β β':List (Option Addr)} {O O':Addr→Prop} {H H':Hp} {M:Addr→Prop}
theorem Rep.sub (h: ∀a,O' a→O a) {x:V3} {y:V} (r:Rep κ β O H x y):Rep κ β O' H x y:=r.ext (M:=No) Ext.refl (fun _ z=>z.elim) fun a _ _ n m=>n (h a m)
theorem Reps.sub (h: ∀a,O' a→O a) {x:List V3} {y:List V} (r:Reps κ β O H x y):Reps κ β O' H x y:=r.ext (M:=No) Ext.refl (fun _ z=>z.elim) fun a _ _ n m=>n (h a m)
theorem RepP.sub (h: ∀a,O' a→O a) {α:Type} {x:List (α×V3)} {y:List (α×V)} (r:RepP κ β O H x y):RepP κ β O' H x y:=r.ext (M:=No) Ext.refl (fun _ z=>z.elim) fun a _ _ n m=>n (h a m)
theorem Rep.ext0 (e:Ext No β H β' H') {x:V3} {y:V} (r:Rep κ β O H x y):Rep κ β' O H' x y:=r.ext e (fun _ z=>z.elim) fun _ _ _ n=>n
theorem Reps.ext0 (e:Ext No β H β' H') {x:List V3} {y:List V} (r:Reps κ β O H x y):Reps κ β' O H' x y:=r.ext e (fun _ z=>z.elim) fun _ _ _ n=>n
theorem RepP.ext0 (e:Ext No β H β' H') {α:Type} {x:List (α×V3)} {y:List (α×V)} (r:RepP κ β O H x y):RepP κ β' O H' x y:=r.ext e (fun _ z=>z.elim) fun _ _ _ n=>n
theorem Reps.length: ∀{x:List V3} {y:List V},Reps κ β O H x y→x.length=y.length
 | _,_,.nil=>rfl
 | _,_,.cons _ r=>congrArg (· +1) r.length
theorem RepP.length {α:Type}: ∀{x:List (α×V3)} {y:List (α×V)},RepP κ β O H x y→x.length=y.length
 | _,_,.nil=>rfl
 | _,_,.cons _ r=>congrArg (· +1) r.length
theorem Reps.get: ∀{xs:List V3} {ys:List V} {i:Nat} {x:V3},Reps κ β O H xs ys→xs[i]? =some x→∃y,ys[i]? =some y∧Rep κ β O H x y
 | _,_,_,_,.nil,e=>by simp at e
 | _,_,0,_,.cons r _,e=>by simp at e;subst e;exact ⟨_,rfl,r⟩
 | _,_,i+1,x,.cons _ t,e=>by
  obtain ⟨u,h1,h2⟩:=Reps.get (i:=i) (x:=x) t (by simpa using e)
  exact ⟨u,by simpa using h1,h2⟩
theorem Reps.get': ∀{xs:List V3} {ys:List V} {i:Nat} {y:V},Reps κ β O H xs ys→ys[i]? =some y→∃x,xs[i]? =some x∧Rep κ β O H x y
 | _,_,_,_,.nil,e=>by simp at e
 | _,_,0,_,.cons r _,e=>by simp at e;subst e;exact ⟨_,rfl,r⟩
 | _,_,i+1,x,.cons _ t,e=>by
  obtain ⟨u,h1,h2⟩:=Reps.get' (i:=i) (y:=x) t (by simpa using e)
  exact ⟨u,by simpa using h1,h2⟩
theorem Reps.append: ∀{xs:List V3} {ys:List V} {xs':List V3} {ys':List V},Reps κ β O H xs ys→Reps κ β O H xs' ys'→Reps κ β O H (xs++xs') (ys++ys')
 | _,_,_,_,.nil,s=>s
 | _,_,_,_,.cons r t,s=> .cons r (Reps.append t s)
theorem Reps.set {x:V3} {u:V} (r:Rep κ β O H x u): ∀{xs:List V3} {us:List V} (i:Nat),Reps κ β O H xs us→Reps κ β O H (xs.set i x) (us.set i u)
 | _,_,_,.nil=> .nil
 | _,_,0,.cons _ t=> .cons r t
 | _,_,i+1,.cons q t=> .cons q (Reps.set r i t)
theorem Reps.take: ∀{xs:List V3} {us:List V} (n:Nat),Reps κ β O H xs us→Reps κ β O H (xs.take n) (us.take n)
 | _,_,0,_=> .nil
 | _,_,_+1,.nil=> .nil
 | _,_,n+1,.cons r t=> .cons r (Reps.take n t)
theorem Reps.drop: ∀{xs:List V3} {us:List V} (n:Nat),Reps κ β O H xs us→Reps κ β O H (xs.drop n) (us.drop n)
 | _,_,0,r=>r
 | _,_,_+1,.nil=> .nil
 | _,_,n+1,.cons _ t=>Reps.drop n t
theorem Reps.dropLast {xs:List V3} {us:List V} (h:Reps κ β O H xs us):Reps κ β O H xs.dropLast us.dropLast:=by
 rw [List.dropLast_eq_take,List.dropLast_eq_take,h.length];exact h.take _
theorem Reps.rep {xs:List V3} {us:List V} (h:Reps κ β O H xs us): ∀k:Nat,Reps κ β O H (List.replicate k xs).flatten (List.replicate k us).flatten
 | 0=> .nil
 | k+1=>by
  rw [List.replicate_succ,List.replicate_succ,List.flatten_cons,List.flatten_cons]
  exact h.append (Reps.rep h k)
theorem RepP.lookup {α:Type} [BEq α] {f:α} {x:V3}: ∀{xs:List (α×V3)} {ys:List (α×V)},RepP κ β O H xs ys→xs.lookup f=some x→∃y,ys.lookup f=some y∧Rep κ β O H x y
 | _,_,.nil,e=>by cases e
 | _,_,.cons (k:=k) r t,e=>by
  rw [List.lookup_cons] at e ⊢
  cases q:f==k with
  | true=>rw [q] at e;cases e;exact ⟨_,rfl,r⟩
  | false=>rw [q] at e;exact RepP.lookup t e
theorem RepP.lookup_none {α:Type} [BEq α] {f:α}: ∀{xs:List (α×V3)} {ys:List (α×V)},RepP κ β O H xs ys→xs.lookup f=none→ys.lookup f=none
 | _,_,.nil,_=>rfl
 | _,_,.cons (k:=k) r t,e=>by
  rw [List.lookup_cons] at e ⊢
  cases q:f==k with
  | true=>rw [q] at e;cases e
  | false=>rw [q] at e;exact RepP.lookup_none t e
end
def CellR (κ:Kx) (β:List (Option Addr)) (O:Addr→Prop) (H:Hp):C3→Addr→Prop
 | .lst xs,a=> ∃ys,H a=some (.lst ys)∧Reps κ β O H xs ys
 | .dK kvs,a=> ∃ws,H a=some (.dK ws)∧RepP κ β O H kvs ws
 | .dT kvs,a=> ∃ws,H a=some (.dT ws)∧RepP κ β O H kvs ws
 | .ins c fs,a=> ∃C dx gs,κ.cl c=some C∧H a=some (.ins C dx gs)∧RepP κ β O H fs gs
 | .dead,_=>False
 | .tab,a=>a=κ.tb∧H a=some (.tbl #[])
structure RelH (κ:Kx) (O:Addr→Prop) (β:List (Option Addr)) (h:H3) (H:Hp):Prop where
 len:β.length=h.length
 inj: ∀(i j:Nat) a,β[i]? =some (some a)→β[j]? =some (some a)→i=j
 off: ∀a,O a→some a∉β
 trk: ∀a,O a→∃o,H a=some o∧∀ys,o≠HO.tup ys
 btr: ∀(i:Nat) a,β[i]? =some (some a)→∃o,H a=some o∧∀ys,o≠HO.tup ys
 cell: ∀(i:Nat) c,h[i]? =some c→c= .dead∨∃a,β[i]? =some (some a)∧CellR κ β O H c a
structure Fr where
 Oi:Addr→Prop
 T:List Addr
 β:List (Option Addr)
 l:List (Option Addr)
 s:S3
 h:H3
def Fr.O (F:Fr):Addr→Prop:=fun a=>a∈F.T∨some a∈F.l∨F.Oi a
def SlotR (κ:Kx) (F:Fr) (H:Hp) (i:Nat):Vl→V→Prop
 | .v x,v=>Rep κ F.β F.O H x v
 | .m c,v=> ∃a,F.l[i]? =some (some a)∧v= .ref a∧CellR κ F.β F.O H c a
structure Rel (κ:Kx) (F:Fr) (σ:St) (H:Hp):Prop where
 heap:RelH κ F.O F.β F.h H
 slen:F.s.length=σ.length
 llen:F.l.length=F.s.length
 linj: ∀(i j:Nat) a,F.l[i]? =some (some a)→F.l[j]? =some (some a)→i=j
 lt: ∀a,some a∈F.l→a∉F.T
 lo: ∀a,some a∈F.l→¬F.Oi a
 to: ∀a∈F.T,¬F.Oi a
 tn:F.T.Nodup
 slot: ∀(i:Nat) x,F.s[i]? =some (some x)→∃v,σ[i]? =some (some v)∧SlotR κ F H i x v
section
variable {κ:Kx} {β β':List (Option Addr)} {O O':Addr→Prop} {H H':Hp} {M:Addr→Prop} {c:C3} {a:Addr} {h:H3}
theorem CellR.sub (hs: ∀a,O' a→O a) (r:CellR κ β O H c a):CellR κ β O' H c a:=by
 cases c with
 | lst xs=>obtain ⟨_,q,r⟩:=r;exact ⟨_,q,r.sub hs⟩
 | dK xs=>obtain ⟨_,q,r⟩:=r;exact ⟨_,q,r.sub hs⟩
 | dT xs=>obtain ⟨_,q,r⟩:=r;exact ⟨_,q,r.sub hs⟩
 | ins c fs=>obtain ⟨_,_,_,k,q,r⟩:=r;exact ⟨_,_,_,k,q,r.sub hs⟩
 | dead=>exact r
 | tab=>exact r
theorem CellR.ext (e:Ext M β H β' H') (hM: ∀a,M a→O a) (hO: ∀a o,H a=some o→¬O a→¬O' a) (hb: ∀o,H a=some o→H' a=some o) (r:CellR κ β O H c a):CellR κ β' O' H' c a:=by
 cases c with
 | lst xs=>obtain ⟨_,q,r⟩:=r;exact ⟨_,hb _ q,r.ext e hM hO⟩
 | dK xs=>obtain ⟨_,q,r⟩:=r;exact ⟨_,hb _ q,r.ext e hM hO⟩
 | dT xs=>obtain ⟨_,q,r⟩:=r;exact ⟨_,hb _ q,r.ext e hM hO⟩
 | ins c fs=>obtain ⟨_,_,_,k,q,r⟩:=r;exact ⟨_,_,_,k,hb _ q,r.ext e hM hO⟩
 | dead=>exact r
 | tab=>exact ⟨r.1,hb _ r.2⟩
theorem CellR.fz {x:V3} (hc:c.fz=some x) (hn:some a∉β) (ho: ¬O a) (r:CellR κ β O H c a):Rep κ β O H x (.ref a):=by
 cases c with
 | lst xs=>cases hc;obtain ⟨_,q,r⟩:=r;exact .lst q hn ho r
 | dK xs=>cases hc;obtain ⟨_,q,r⟩:=r;exact .dK q hn ho r
 | dT xs=>cases hc;obtain ⟨_,q,r⟩:=r;exact .dT q hn ho r
 | ins c fs=>cases hc;obtain ⟨_,_,_,k,q,r⟩:=r;exact .obj k q hn ho r
 | dead=>exact r.elim
 | tab=>cases hc
theorem RelH.sub (hs: ∀a,O' a→O a) (r:RelH κ O β h H):RelH κ O' β h H:=
 ⟨r.len,r.inj,fun a ha=>r.off a (hs a ha),fun a ha=>r.trk a (hs a ha),r.btr,fun i c hc=>(r.cell i c hc).imp id fun ⟨a,ha,q⟩=>⟨a,ha,q.sub hs⟩⟩
end
abbrev Fr.with (F:Fr) (p:Addr):Fr:={F with T:=p::F.T}
abbrev Fr.to (F:Fr) (β:List (Option Addr)) (h:H3):Fr:={F with β:=β,h:=h}
abbrev Nw (H:Hp):Addr→Prop:=fun p=>H p=none
def Post (κ:Kx) (N:Addr→Prop) (F:Fr) (σ:St) (H:Hp):Vl→V→Prop
 | .v x,v=>Rel κ F σ H∧Rep κ F.β F.O H x v
 | .m c,v=> ∃p,v= .ref p∧Rel κ (F.with p) σ H∧CellR κ F.β (F.with p).O H c p∧N p
def XOk (κ:Kx) (E:XK) (x:X3) (β:List (Option Addr)) (O:Addr→Prop) (H:Hp):Prop:=∀C dd,κ.cl x.c=some C→XD β O H dd x.nm.toList→E (.ref C) dd H
theorem XOk.sub {κ:Kx} {E:XK} {x:X3} {β:List (Option Addr)} {O O':Addr→Prop} {H:Hp} (o:XOk κ E x β O H) (hs: ∀a,O a→O' a):XOk κ E x β O' H:=fun C dd hC q=>o C dd hC (q.imp fun d u h n m=>⟨h,n,fun z=>m (hs d z)⟩)
abbrev Kd (α ω:Type):=Hp→Fr→St→Hp→α→ω→Prop
def zhk {α ω:Type} (K:Kd α ω):Prop:=∀(M:Addr→Prop) β H β1 H1 F σ H' a w,Ext M β H β1 H1→K H1 F σ H' a w→K H F σ H' a w
def Out {α ω:Type} (κ:Kx) (E:XK) (K:Kd α ω) (F:Fr) (σ:St) (H:Hp) (Q:ω→Hp→Prop):Res α→Prop
 | .ok a h'=> ∀β' w H',Ext No F.β H β' H'→K H (F.to β' h') σ H' a w→Q w H'
 | .ex x h'=> ∀β' H',Ext No F.β H β' H'→RelH κ F.Oi β' h' H'→XOk κ E x β' F.Oi H'
 | .no=>False
def tOf {α ω:Type} (κ:Kx) (E:XK) (K:Kd α ω) (d:S3→H3→Res α) (σ:St) (H:Hp) (Q:ω→Hp→Prop):Prop:=∃F,Rel κ F σ H∧Out κ E K F σ H Q (d F.s F.h)
def kE (κ:Kx):Kd Vl V:=fun H F σ H' r v=>Post κ (Nw H) F σ H' r v
abbrev zf (κ:Kx) (E:XK) (d:E3):TE:=tOf κ E (kE κ) d
section
variable {κ:Kx} {E:XK} {F:Fr} {σ:St} {H H':Hp} {Q:VK} {p:Addr}
theorem Fr.O_with {a:Addr} (h:F.O a):(F.with p).O a:=h.imp (fun z=>List.mem_cons_of_mem _ z) id
theorem SlotR.sub {F F':Fr} {i:Nat} {x:Vl} {v:V} (hb:F'.β=F.β) (hl:F'.l=F.l) (hs: ∀a,F'.O a→F.O a) (h:SlotR κ F H i x v):SlotR κ F' H i x v:=by
 cases x with
 | v x=>show Rep κ F'.β F'.O H x v;rw [hb];exact Rep.sub hs h
 | m c=>obtain ⟨a,h1,h2,h3⟩:=h;refine ⟨a,by rw [hl];exact h1,h2,?_⟩;rw [hb];exact h3.sub hs
theorem Rel.drop (h:Rel κ (F.with p) σ H):Rel κ F σ H where
 heap:=h.heap.sub fun a ha=>Fr.O_with ha
 slen:=h.slen
 llen:=h.llen
 linj:=h.linj
 lt:=fun a ha z=>h.lt a ha (List.mem_cons_of_mem _ z)
 lo:=h.lo
 to:=fun a ha=>h.to a (List.mem_cons_of_mem _ ha)
 tn:=(List.nodup_cons.mp h.tn).2
 slot:=fun i x e=>let ⟨v,a,b⟩:=h.slot i x e;⟨v,a,SlotR.sub (F:=F.with p) (F':=F) rfl rfl (fun a ha=>Fr.O_with ha) b⟩
theorem Rel.apart (h:Rel κ (F.with p) σ H): ¬F.O p:=fun z=>by
 rcases z with z | z | z
 ·exact (List.nodup_cons.mp h.tn).1 z
 ·exact h.lt p z List.mem_cons_self
 ·exact h.to p List.mem_cons_self z
theorem Rel.offp (h:Rel κ (F.with p) σ H):some p∉F.β:=h.heap.off p (.inl List.mem_cons_self)
theorem Post.fz {N:Addr→Prop} {x:Vl} {y:V3} {v:V} (h:Post κ N F σ H x v) (e:x.fz=some y):Rel κ F σ H∧Rep κ F.β F.O H y v:=by
 cases x with
 | v x=>cases e;exact h
 | m c=>
  obtain ⟨p,rfl,r,q,_⟩:=h
  exact ⟨r.drop,(q.sub (O':=F.O) fun a ha=>Fr.O_with ha).fz e r.offp r.apart⟩
theorem Post.imp {N N':Addr→Prop} {x:Vl} {v:V} (h:Post κ N F σ H x v) (k: ∀p,N p→N' p):Post κ N' F σ H x v:=by
 cases x with
 | v x=>exact h
 | m c=>obtain ⟨p,h1,h2,h3,h4⟩:=h;exact ⟨p,h1,h2,h3,k p h4⟩
theorem Ext.nw {M:Addr→Prop} {β β':List (Option Addr)} {H0 H1:Hp} (e:Ext M β H0 β' H1): ∀p,Nw H1 p→Nw H0 p:=fun p h=>by
 cases w:H0 p with
 | none=>exact w
 | some o=>obtain ⟨o',z⟩:=e.there p o w;rw [h] at z;cases z
theorem Rel.slotExt {β':List (Option Addr)} {h':H3} (r:Rel κ F σ H) (e:Ext No F.β H β' H') {i:Nat} {x:Vl} {v:V} (q:SlotR κ F H i x v):SlotR κ (F.to β' h') H' i x v:=by
 cases x with
 | v x=>exact Rep.ext0 e q
 | m c=>
  obtain ⟨a,h1,h2,h3⟩:=q
  have ha:F.O a:= .inr (.inl (List.mem_of_getElem? h1))
  exact ⟨a,h1,h2,h3.ext e (fun _ z=>z.elim) (fun _ _ _ n=>n) fun o ho=>(e.keep a o ho (r.heap.off a ha) fun z=>z).1⟩
theorem Rel.next {β':List (Option Addr)} {h':H3} (r:Rel κ F σ H) (e:Ext No F.β H β' H') (rh:RelH κ F.O β' h' H'):Rel κ (F.to β' h') σ H' where
 heap:=rh
 slen:=r.slen
 llen:=r.llen
 linj:=r.linj
 lt:=r.lt
 lo:=r.lo
 to:=r.to
 tn:=r.tn
 slot:=fun i x hx=>let ⟨v,a,b⟩:=r.slot i x hx;⟨v,a,r.slotExt e b⟩
theorem Out.move {α ω:Type} {K:Kd α ω} {Q:ω→Hp→Prop} {r:Res α} {β':List (Option Addr)} {h':H3} (hK:zhk K) (e:Ext No F.β H β' H') (o:Out κ E K F σ H Q r):Out κ E K (F.to β' h') σ H' Q r:=by
 cases r with
 | ok x h2=>exact fun β2 v H2 e2 p=>o β2 v H2 (e.trans0 e2) (hK _ _ _ _ _ _ _ _ _ _ e p)
 | ex x h2=>exact fun β2 H2 e2 p=>o β2 H2 (e.trans0 e2) p
 | no=>exact o
theorem zF:zhk (kE κ):=fun M β H β1 H1 F σ H' a w e h=>Post.imp h e.nw
theorem tOf.mono {α ω:Type} {K:Kd α ω} {Q Q':ω→Hp→Prop} {d:S3→H3→Res α} (h:tOf κ E K d σ H Q) (k: ∀v H,Q v H→Q' v H):tOf κ E K d σ H Q':=by
 obtain ⟨F,rel,o⟩:=h
 refine ⟨F,rel,?_⟩
 cases q:d F.s F.h with
 | ok r h1=>rw [q] at o;exact fun β v H' e p=>k _ _ (o β v H' e p)
 | ex x h1=>rw [q] at o;exact o
 | no=>rw [q] at o;exact o
theorem zQ {α ω α' ω':Type} {K:Kd α ω} {K':Kd α' ω'} {Q:ω'→Hp→Prop} {a:S3→H3→Res α} {k:α→H3→Res α'} (hK:zhk K') (rel:Rel κ F σ H) (h:Out κ E K' F σ H Q ((a F.s F.h).bind k)):
  tOf κ E K a σ H (fun w H1=> ∃β1 h1 x,Ext No F.β H β1 H1∧K H (F.to β1 h1) σ H1 x w∧Out κ E K' (F.to β1 h1) σ H1 Q (k x h1)):=by
 refine ⟨F,rel,?_⟩
 cases q:a F.s F.h with
 | no=>rw [q] at h;exact h
 | ex x h1=>rw [q] at h;exact h
 | ok r h1=>rw [q] at h;exact fun β1 v H1 e p=>⟨β1,h1,r,e,p,Out.move hK e h⟩
theorem yv {β:List (Option Addr)} {o:HO} (hp:H p=none):Ext No β H β (zg H p o):=
 ⟨fun a u ha hn _=>⟨by rw [zl (zT ha hp)];exact ha,hn⟩,Nat.le_refl _,fun _ _ _ h=>h,fun a u ha=>⟨u,by rw [zl (zT ha hp)];exact ha⟩,nwb0⟩
theorem RelH.trk' {O:Addr→Prop} {β:List (Option Addr)} {h:H3} (r:RelH κ O β h H) (a:Addr) (ha:O a): ∃o,H a=some o:=let ⟨u,q,_⟩:=r.trk a ha;⟨u,q⟩
theorem RelH.btr' {O:Addr→Prop} {β:List (Option Addr)} {h:H3} (r:RelH κ O β h H) (i:Nat) (a:Addr) (e:β[i]? =some (some a)): ∃o,H a=some o:=let ⟨u,q,_⟩:=r.btr i a e;⟨u,q⟩
theorem CellR.nt {β:List (Option Addr)} {O:Addr→Prop} {c:C3} {u:HO} {l:Addr} (h:CellR κ β O (zg H l u) c l): ∀ys,u≠HO.tup ys:=by
 intro ys z
 subst z
 cases c with
 | lst xs=>obtain ⟨_,e,_⟩:=h;rw [zI] at e;cases e
 | dK xs=>obtain ⟨_,e,_⟩:=h;rw [zI] at e;cases e
 | dT xs=>obtain ⟨_,e,_⟩:=h;rw [zI] at e;cases e
 | ins c fs=>obtain ⟨_,_,_,_,e,_⟩:=h;rw [zI] at e;cases e
 | dead=>exact h
 | tab=>obtain ⟨_,e⟩:=h;rw [zI] at e;cases e
theorem RelH.off_new {O:Addr→Prop} {β:List (Option Addr)} {h:H3} (r:RelH κ O β h H) (hp:H p=none):some p∉β∧¬O p:=by
 refine ⟨fun z=>?_,fun z=>?_⟩
 ·obtain ⟨i,hi⟩:=List.getElem?_of_mem z
  obtain ⟨o,ho,_⟩:=r.btr i p hi
  rw [hp] at ho;cases ho
 ·obtain ⟨o,ho,_⟩:=r.trk p z
  rw [hp] at ho;cases ho
theorem RelH.laid {O:Addr→Prop} {β:List (Option Addr)} {h:H3} {o:HO} (r:RelH κ O β h H) (hp:H p=none):RelH κ O β h (zg H p o):=by
 have k: ∀a u,H a=some u→zg H p o a=some u:=fun a u ha=>by rw [zl (zT ha hp)];exact ha
 exact ⟨r.len,r.inj,r.off,fun a ha=>let ⟨u,q,n⟩:=r.trk a ha;⟨u,k a u q,n⟩,fun i a e=>let ⟨u,q,n⟩:=r.btr i a e;⟨u,k a u q,n⟩,
  fun i c hc=>(r.cell i c hc).imp id fun ⟨a,ha,q⟩=>⟨a,ha,q.ext (yv hp) (fun _ z=>z.elim) (fun _ _ _ n=>n) fun u hu=>k a u hu⟩⟩
theorem Rel.laid {o:HO} (r:Rel κ F σ H) (hp:H p=none):Rel κ F σ (zg H p o):=r.next (yv hp) (r.heap.laid hp)
theorem O_ne {a:Addr} (h:(F.with p).O a) (hne:a≠p):F.O a:=by
 rcases h with h | h
 ·rcases List.mem_cons.mp h with h | h
  ·exact absurd h hne
  ·exact .inl h
 ·exact .inr h
theorem Rel.new {o:HO} (r:Rel κ F σ H) (hp:H p=none) (ho: ∀ys,o≠HO.tup ys:=by intro _ z;cases z):Rel κ (F.with p) σ (zg H p o)∧∀{x:V3} {y:V},Rep κ F.β F.O H x y→Rep κ F.β (F.with p).O (zg H p o) x y:=by
 obtain ⟨n1,n2⟩:=r.heap.off_new hp
 have e:Ext No F.β H F.β (zg H p o):=yv hp
 have hM: ∀a,No a→F.O a:=fun _ z=>z.elim
 have hO: ∀a u,H a=some u→¬F.O a→¬(F.with p).O a:=fun a u ha n z=>n (O_ne z (zT ha hp))
 have k: ∀a u,H a=some u→zg H p o a=some u:=fun a u ha=>by rw [zl (zT ha hp)];exact ha
 refine ⟨⟨⟨r.heap.len,r.heap.inj,fun a ha=>?_,fun a ha=>?_,fun i a q=>let ⟨u,z,n⟩:=r.heap.btr i a q;⟨u,k a u z,n⟩,fun i c hc=>(r.heap.cell i c hc).imp id fun ⟨a,ha,q⟩=>⟨a,ha,q.ext e hM hO fun u hu=>k a u hu⟩⟩,
  r.slen,r.llen,r.linj,?_,r.lo,?_,List.nodup_cons.mpr ⟨fun z=>n2 (.inl z),r.tn⟩,fun i x q=>?_⟩,fun h=>h.ext e hM hO⟩
 ·by_cases z:a=p
  ·subst z;exact n1
  ·exact r.heap.off a (O_ne ha z)
 ·by_cases z:a=p
  ·subst z;exact ⟨o,zI,ho⟩
  ·obtain ⟨u,q,n⟩:=r.heap.trk a (O_ne ha z);exact ⟨u,k a u q,n⟩
 ·intro a ha z
  rcases List.mem_cons.mp z with z | z
  ·subst z;exact n2 (.inr (.inl ha))
  ·exact r.lt a ha z
 ·intro a ha z
  rcases List.mem_cons.mp ha with h | h
  ·subst h;exact n2 (.inr (.inr z))
  ·exact r.to a h z
 ·obtain ⟨v,h1,h2⟩:=r.slot i x q
  refine ⟨v,h1,?_⟩
  cases x with
  | v x=>exact Rep.ext e hM hO h2
  | m c=>
   obtain ⟨a,a1,a2,a3⟩:=h2
   exact ⟨a,a1,a2,a3.ext e hM hO fun u hu=>k a u hu⟩
theorem Out.val {x:V3} {v:V} (o:Out κ E (kE κ) F σ H Q (.ok (.v x) F.h)) (rel:Rel κ F σ H) (r:Rep κ F.β F.O H x v):Q v H:=o F.β v H Ext.refl ⟨rel,r⟩
inductive Rf where
 | x (v:V3) | s (i:Nat)
abbrev P3:=S3→H3→Res Rf
def pV (i:Nat):P3:=fun s h=>match s[i]? with
 | some (some (.v x))=> .ok (.x x) h
 | some (some (.m _))=> .ok (.s i) h
 | _=> .no
def pE (e:E3):P3:=fun s h=>(e s h).bind fun r h1=>match r.fz with
 | some x=> .ok (.x x) h1
 | none=> .no
def RfR (κ:Kx) (F:Fr) (H:Hp):Rf→V→Prop
 | .x y,v=>Rep κ F.β F.O H y v
 | .s i,v=> ∃a c,F.l[i]? =some (some a)∧v= .ref a∧F.s[i]? =some (some (.m c))∧CellR κ F.β F.O H c a
def kP (κ:Kx):Kd Rf V:=fun _ F σ H' f v=>Rel κ F σ H'∧RfR κ F H' f v
abbrev zn (κ:Kx) (E:XK) (d:P3):TE:=tOf κ E (kP κ) d
theorem km_P:zhk (kP κ):=fun _ _ _ _ _ _ _ _ _ _ _ h=>h
theorem RfR.ext {β':List (Option Addr)} {h':H3} {f:Rf} {v:V} (rel:Rel κ F σ H) (e:Ext No F.β H β' H') (r:RfR κ F H f v):RfR κ (F.to β' h') H' f v:=by
 cases f with
 | x y=>exact Rep.ext0 e r
 | s i=>
  obtain ⟨a,c,h1,h2,h3,h4⟩:=r
  have ha:F.O a:= .inr (.inl (List.mem_of_getElem? h1))
  exact ⟨a,c,h1,h2,h3,h4.ext e (fun _ z=>z.elim) (fun _ _ _ n=>n) fun o ho=>(e.keep a o ho (rel.heap.off a ha) fun z=>z).1⟩
def rdl (s:S3) (h:H3):Rf→Option (List V3)
 | .x (.lst xs)=>some xs
 | .x (.scr ns)=>some (ns.map .int)
 | .x (.loc n)=>match h[n]? with
  | some (.lst xs)=>some xs
  | _=>none
 | .s i=>match s[i]? with
  | some (some (.m (.lst xs)))=>some xs
  | _=>none
 | _=>none
theorem ze4 {f:Rf} {v:V} {xs:List V3} (rel:Rel κ F σ H) (r:RfR κ F H f v) (e:rdl F.s F.h f=some xs): ∃a ys,v= .ref a∧SqL κ.K H a ys∧Reps κ F.β F.O H xs ys:=by
 cases f with
 | s i=>
  obtain ⟨a,c,h1,h2,h3,h4⟩:=r
  simp only [rdl,h3] at e
  cases c <;> simp at e
  subst e
  obtain ⟨ys,h5,h6⟩:=h4
  exact ⟨a,ys,h2,.of h5,h6⟩
 | x y=>
  cases y <;> simp [rdl] at e
  case lst zs=>
   subst e
   cases r with
   | lst h1 h2 h3 h4=>exact ⟨_,_,rfl,.of h1,h4⟩
  case scr ns=>
   subst e
   have g: ∀l:List Int,Reps κ F.β F.O H (l.map V3.int) (l.map V.int):=fun l=>by
    induction l with
    | nil=>exact .nil
    | cons x r ih=>exact .cons (.int x) ih
   cases r with
   | scr h1 h2 h3=>exact ⟨_,_,rfl,.inl (.inr ⟨_,h1⟩),g ns⟩
   | scrK h=>exact ⟨_,_,rfl,.inr h,g ns⟩
  case loc n=>
   cases r with
   | loc h1 h2=>
    cases q:F.h[n]? with
    | none=>rw [q] at e;cases e
    | some c=>
     rw [q] at e
     cases c <;> simp at e
     subst e
     rcases rel.heap.cell n _ q with z | ⟨a,ha,ys,h5,h6⟩
     ·cases z
     ·exact ⟨a,ys,h2 a ha,.of h5,h6⟩
end
abbrev A3:=S3→H3→Res (List Rf)
def aNil:A3:=fun _ h=> .ok [] h
def aCons (p:P3) (a:A3):A3:=fun s h=>(p s h).bind fun f h1=>(a s h1).bind fun fs h2=> .ok (f::fs) h2
def kA (κ:Kx):Kd (List Rf) (List V):=fun _ F σ H' fs vs=>Rel κ F σ H'∧Paired (RfR κ F H') fs vs
abbrev zy (κ:Kx) (E:XK) (d:A3):TA:=tOf κ E (kA κ) d
def vals3:List Rf→Option (List V3)
 | []=>some []
 | .x v::r=>(vals3 r).map (v:: ·)
 | .s _::_=>none
abbrev T3:=S3→H3→Res Bool
def kT (κ:Kx):Kd Bool Bool:=fun _ F σ H' b b'=>b'=b∧Rel κ F σ H'
abbrev zK (κ:Kx) (E:XK) (d:T3):TT:=tOf κ E (kT κ) d
section
variable {X:Cx} {κ:Kx} {E:XK} {F:Fr} {σ:St} {H H':Hp} {Q:VK} {p:Addr} {e a b:Expr} {pos:Pos} {i:Nat}
theorem km_A:zhk (kA κ):=fun _ _ _ _ _ _ _ _ _ _ _ h=>h
theorem km_T:zhk (kT κ):=fun _ _ _ _ _ _ _ _ _ _ _ h=>h
theorem zZ {t t':TE} (h:PE X e t) (w: ∀σ H Q,t' σ H Q→t σ H Q):PE X e t':=fun pins s σ H Q I q=>h pins s σ H Q I (w σ H Q q)
theorem PTw {t t':TT} (h:PT X e t) (w: ∀σ H Q,t' σ H Q→t σ H Q):PT X e t':=fun pins s σ H Q I q=>h pins s σ H Q I (w σ H Q q)
theorem PWw {t t':TT} (h:PW X e t) (w: ∀σ H Q,t' σ H Q→t σ H Q):PW X e t':=fun wh pins s σ H Q I q=>h wh pins s σ H Q I (w σ H Q q)
theorem PAw {es:List Expr} {t t':TA} (h:PA X es t) (w: ∀σ H Q,t' σ H Q→t σ H Q):PA X es t':=fun pos pins s σ H Q I q=>h pos pins s σ H Q I (w σ H Q q)
def eV (i:Nat):E3:=fun s h=>match s[i]? with
 | some (some (.v x))=> .ok (.v x) h
 | _=> .no
def eC (x:V3):E3:=fun _ h=> .ok (.v x) h
theorem r_v (hv:PE X e (tVar i)):PE X e (zf κ E (eV i)):=zZ hv fun σ H Q ⟨F,rel,o⟩=>by
 unfold eV at o
 cases q:F.s[i]? with
 | none=>rw [q] at o;exact o.elim
 | some z=>
  rw [q] at o
  match z,q,o with
  | none,q,o=>exact o.elim
  | some (.m c),q,o=>exact o.elim
  | some (.v x),q,o=>
   obtain ⟨v,h1,h2⟩:=rel.slot i _ q
   exact ⟨v,h1,o.val rel h2⟩
theorem zb (hv:PE X e (tVar i)):PE X e (zn κ E (pV i)):=zZ hv fun σ H Q ⟨F,rel,o⟩=>by
 unfold pV at o
 cases q:F.s[i]? with
 | none=>rw [q] at o;exact o.elim
 | some z=>
  rw [q] at o
  match z,q,o with
  | none,q,o=>exact o.elim
  | some (.m c),q,o=>
   obtain ⟨v,h1,a,h2,h3,h4⟩:=rel.slot i _ q
   exact ⟨v,h1,o F.β v H Ext.refl ⟨rel,a,c,h2,h3,q,h4⟩⟩
  | some (.v x),q,o=>
   obtain ⟨v,h1,h2⟩:=rel.slot i _ q
   exact ⟨v,h1,o F.β v H Ext.refl ⟨rel,h2⟩⟩
theorem za {d:E3} (h:PE X e (zf κ E d)):PE X e (zn κ E (pE d)):=zZ h fun σ H Q ⟨F,rel,o⟩=>
 (zQ (K:=kE κ) km_P rel o).mono fun v H1 ⟨β1,h1,x,e1,p1,o1⟩=>by
  cases z:x.fz with
  | none=>simp only [z] at o1;exact o1.elim
  | some y=>
   simp only [z] at o1
   obtain ⟨r1,r2⟩:=Post.fz p1 z
   exact o1 β1 v H1 Ext.refl ⟨r1,r2⟩
theorem yx {x:V3} {v:V} (hc:PE X e (tC v)) (r: ∀β O H,Rep κ β O H x v):PE X e (zf κ E (eC x)):=zZ hc fun σ H Q ⟨F,rel,o⟩=>o.val rel (r _ _ _)
theorem zm {i j pos}:PE X (.Constant (.int i) j pos) (zf κ E (eC (.int i))):=yx zum fun _ _ _=> .int i
theorem z5 {b j pos}:PE X (.Constant (.bool b) j pos) (zf κ E (eC (.bl b))):=yx zuo fun _ _ _=> .bl b
theorem zk3 {j pos}:PE X (.Constant .none j pos) (zf κ E (eC .non)):=yx zse fun _ _ _=> .non
theorem zlf {x j pos}:PE X (.Constant (.str x) j pos) (zf κ E (eC (.str x))):=yx zs9 fun _ _ _=> .str x
theorem zh:PA X [] (zy κ E aNil):=PAw zrz fun σ H Q ⟨F,rel,o⟩=>o F.β [] H Ext.refl ⟨rel,.nil⟩
theorem ze {es:List Expr} {d:P3} {t:A3} (ha:PE X e (zn κ E d)) (hr:PA X es (zy κ E t)) (hs:starEach (e::es) X.env=(false,eval e X.env)::starEach es X.env:=by rfl):PA X (e::es) (zy κ E (aCons d t)):=
 PAw (zlz ha hr hs) fun σ H Q ⟨F,rel,o⟩=>
  (zQ (K:=kP κ) km_A rel o).mono fun v H1 ⟨β1,h1,x,e1,⟨r1,rf1⟩,o1⟩=>
   (zQ (F:=F.to β1 h1) (K:=kA κ) km_A r1 o1).mono fun vs H2 ⟨β2,h2,fs,e2,⟨r2,rf2⟩,o2⟩=>o2 β2 (v::vs) H2 Ext.refl ⟨r2,.cons (RfR.ext (F:=F.to β1 h1) (β':=β2) (h':=h2) r1 e2 rf1) rf2⟩
theorem zbr: ∀{fs:List Rf} {vs:List V} {xs:List V3},Paired (RfR κ F H) fs vs→vals3 fs=some xs→Reps κ F.β F.O H xs vs
 | _,_,_,.nil,e=>by cases e;exact .nil
 | f::fs,v::vs,xs,.cons q t,e=>by
  cases f with
  | s i=>cases e
  | x y=>
   unfold vals3 at e
   cases z:vals3 fs with
   | none=>rw [z] at e;cases e
   | some l=>rw [z] at e;cases e;exact .cons q (zbr t z)
abbrev F2:=S3→H3→Rf→Rf→Option Vl
def opt (h:H3):Option Vl→Res Vl
 | some z=> .ok z h
 | none=> .no
def eOp (f:F2) (a b:P3):E3:=fun s h=>(a s h).bind fun x h1=>(b s h1).bind fun y h2=>opt h2 (f s h2 x y)
def OpSim (κ:Kx) (r:R2) (f:F2):Prop:=∀(F:Fr) (σ:St) (H:Hp) (x y:Rf) (z:Vl) (v w:V) (Q:VK),Rel κ F σ H→RfR κ F H x v→RfR κ F H y w→f F.s F.h x y=some z→
 (∀u H',Ext No F.β H F.β H'→Post κ (Nw H) F σ H' z u→Q u H')→r v w H Q
theorem Out.opt {o:Option Vl} {h:H3} (h0:F.h=h) (q:Out κ E (kE κ) F σ H Q (opt h o)): ∃z,o=some z∧∀u H',Ext No F.β H F.β H'→Post κ (Nw H) F σ H' z u→Q u H':=by
 cases o with
 | none=>exact q.elim
 | some z=>subst h0;exact ⟨z,rfl,fun u H' e p=>q F.β u H' e p⟩
theorem zo6 {r:R2} {f:F2} {a b:P3} (hs:OpSim κ r f) (h:zf κ E (eOp f a b) σ H Q):tOp r (zn κ E a) (zn κ E b) σ H Q:=by
 obtain ⟨F,rel,o⟩:=h
 refine (zQ (K:=kP κ) zF rel o).mono fun v H1 ⟨β1,h1,f1,e1,⟨r1,rf1⟩,o1⟩=>?_
 refine (zQ (F:=F.to β1 h1) (K:=kP κ) zF r1 o1).mono fun w H2 ⟨β2,h2,f2,e2,⟨r2,rf2⟩,o2⟩=>?_
 obtain ⟨z,q,k⟩:=Out.opt (F:=F.to β2 h2) rfl o2
 exact hs (F.to β2 h2) σ H2 f1 f2 z v w Q r2 (RfR.ext (F:=F.to β1 h1) (β':=β2) (h':=h2) r1 e2 rf1) rf2 q k
theorem zD {op:Operator} {r:R2} {f:F2} {da db:P3} (hs:OpSim κ r f) (ho:OpR X (binaryOp op) r) (ha:PE X a (zn κ E da)) (hb:PE X b (zn κ E db)):PE X (.BinOp a op b pos) (zf κ E (eOp f da db)):=zZ (zvo ho ha hb) fun _ _ _ h=>zo6 hs h
theorem zk8 {op:CmpOp} {r:R2} {f:F2} {da db:P3} (hs:OpSim κ r f) (ho:OpR X (compareOp op) r) (hm:behindInMarks op b=false) (ha:PE X a (zn κ E da)) (hb:PE X b (zn κ E db)):PE X (.Compare a [op] [b] pos) (zf κ E (eOp f da db)):=zZ (zqx ho ha hb hm) fun _ _ _ h=>zo6 hs h
theorem zE {r:R2} {f:F2} {da db:P3} (hs:OpSim κ r f) (ho:IxR X r) (hm:zl8 b) (ha:PE X a (zn κ E da)) (hb:PE X b (zn κ E db)):PE X (.Subscript a b pos) (zf κ E (eOp f da db)):=zZ (zvt ho ha hb hm) fun _ _ _ h=>zo6 hs h
abbrev FB:=S3→H3→List Rf→Option Vl
def eB (f:FB) (a:A3):E3:=fun s h=>(a s h).bind fun fs h1=>opt h1 (f s h1 fs)
def qj (κ:Kx) (r:List V→Hp→VK→Prop) (f:FB):Prop:=∀(F:Fr) (σ:St) (H:Hp) (fs:List Rf) (z:Vl) (vs:List V) (Q:VK),Rel κ F σ H→Paired (RfR κ F H) fs vs→f F.s F.h fs=some z→
 (∀u H',Ext No F.β H F.β H'→Post κ (Nw H) F σ H' z u→Q u H')→r vs H Q
theorem te_b {r:List V→Hp→VK→Prop} {f:FB} {a:A3} (hs:qj κ r f) (h:zf κ E (eB f a) σ H Q):tCB r (zy κ E a) σ H Q:=by
 obtain ⟨F,rel,o⟩:=h
 refine (zQ (K:=kA κ) zF rel o).mono fun vs H1 ⟨β1,h1,fs,e1,⟨r1,rf1⟩,o1⟩=>?_
 obtain ⟨z,q,k⟩:=Out.opt (F:=F.to β1 h1) rfl o1
 exact hs (F.to β1 h1) σ H1 fs z vs Q r1 rf1 q k
theorem zvn {a:Addr} {u:HO} (hp:H p=none) (ha:H a=some u) (n: ¬F.O a): ¬(F.with p).O a:=fun z=>n (O_ne z (zT ha hp))
theorem Post.lst {xs:List V3} {ys:List V} (rel:Rel κ F σ H) (hp:H p=none) (r:Reps κ F.β F.O H xs ys):Post κ (Nw H) F σ (zg H p (.lst ys)) (.m (.lst xs)) (.ref p):=by
 obtain ⟨r1,r2⟩:=rel.new (o:= .lst ys) hp
 exact ⟨p,rfl,r1,⟨ys,zI,r.ext (yv hp) (fun _ z=>z.elim) fun a u ha n=>zvn hp ha n⟩,hp⟩
theorem Post.tup {xs:List V3} {ys:List V} {N:Addr→Prop} (rel:Rel κ F σ H) (hp:H p=none) (r:Reps κ F.β F.O H xs ys):Post κ N F σ (zg H p (.tup ys)) (.v (.tup xs)) (.ref p):=by
 obtain ⟨n1,n2⟩:=rel.heap.off_new hp
 exact ⟨rel.laid hp,.tup zI n1 n2 (r.ext0 (yv hp))⟩
def eTup (a:A3):E3:=fun s h=>(a s h).bind fun fs h1=>match vals3 fs with
 | some xs=>if xs.length≤sizeLine then .ok (.v (.tup xs)) h1 else .no
 | none=> .no
def eLst (a:A3):E3:=fun s h=>(a s h).bind fun fs h1=>match vals3 fs with
 | some xs=>if xs.length≤sizeLine then .ok (.m (.lst xs)) h1 else .no
 | none=> .no
theorem zma {es:List Expr} {x1} {t:A3} (h:PA X es (zy κ E t)):PE X (.Tuple es x1 pos) (zf κ E (eTup t)):=zZ (zsg h) fun σ H Q ⟨F,rel,o⟩=>
 (zQ (K:=kA κ) zF rel o).mono fun vs H1 ⟨β1,h1,fs,e1,⟨r1,rf1⟩,o1⟩=>by
  cases q:vals3 fs with
  | none=>simp only [q] at o1;exact o1.elim
  | some xs=>
   simp only [q] at o1
   have hr:=zbr rf1 q
   by_cases hz:xs.length≤sizeLine
   ·rw [if_pos hz] at o1
    exact ⟨by rw [←hr.length];exact hz,fun p hp=>o1 β1 (.ref p) _ (yv hp) (Post.tup r1 hp hr)⟩
   ·rw [if_neg hz] at o1;exact o1.elim
theorem y8 {es:List Expr} {t:A3} (h:PA X es (zy κ E t)):PE X (.List es pos) (zf κ E (eLst t)):=zZ (ztz h) fun σ H Q ⟨F,rel,o⟩=>
 (zQ (K:=kA κ) zF rel o).mono fun vs H1 ⟨β1,h1,fs,e1,⟨r1,rf1⟩,o1⟩=>by
  cases q:vals3 fs with
  | none=>simp only [q] at o1;exact o1.elim
  | some xs=>
   simp only [q] at o1
   have hr:=zbr rf1 q
   by_cases hz:xs.length≤sizeLine
   ·rw [if_pos hz] at o1
    exact ⟨by rw [←hr.length];exact hz,fun p hp=>o1 β1 (.ref p) _ (yv hp) (Post.lst r1 hp hr)⟩
   ·rw [if_neg hz] at o1;exact o1.elim
def tE (e:E3):T3:=fun s h=>(e s h).bind fun r h1=>match r with
 | .v (.bl b)=> .ok b h1
 | _=> .no
theorem zol {d:E3} {Q:Bool→Hp→Prop} (h:zK κ E (tE d) σ H Q):zf κ E d σ H (fun x H'=> ∃k,x= .bl k∧Q k H'):=by
 obtain ⟨F,rel,o⟩:=h
 refine (zQ (K:=kE κ) km_T rel o).mono fun v H1 ⟨β1,h1,x,e1,p1,o1⟩=>?_
 match x,p1,o1 with
 | .v (.bl b),p1,o1=>
  obtain ⟨r1,r2⟩:=p1
  cases r2
  exact ⟨b,rfl,o1 β1 b H1 Ext.refl ⟨rfl,r1⟩⟩
theorem yw {op:CmpOp} {r:R2} {f:F2} {da db:P3} (hs:OpSim κ r f) (ho:OpR X (compareOp op) r) (hm:behindInMarks op b=false) (ha:PE X a (zn κ E da)) (hb:PE X b (zn κ E db)):PT X (.Compare a [op] [b] pos) (zK κ E (tE (eOp f da db))):=PTw (zrr ho ha hb hm) fun _ _ _ h=>zo6 hs (zol h)
theorem yH {d:E3} (h:PE X e (zf κ E d)) (he: ∀whole,isTrue e X.env whole=(do let v ←whole;standAt e.pos;holding [v] (truthy v)):=by intro _;rfl):PT X e (zK κ E (tE d)):=PTw (zr9 h he) fun _ _ _ q=>zol q
def tAnd3 (a b:T3):T3:=fun s h=>(a s h).bind fun c h1=>if c=true then b s h1 else .ok false h1
def tOr3 (a b:T3):T3:=fun s h=>(a s h).bind fun c h1=>if c=true then .ok true h1 else b s h1
def tNot3 (a:T3):T3:=fun s h=>(a s h).bind fun c h1=> .ok (!c) h1
theorem zg9 {t:T3} (ha:PT X a (zK κ E t)):PW X (.BoolOp .And [a] pos) (zK κ E t):=zql ha
theorem zee {t:T3} (ha:PT X a (zK κ E t)):PW X (.BoolOp .Or [a] pos) (zK κ E t):=zsw ha
theorem zjw {t u:T3} {rest:List Expr} (ha:PT X a (zK κ E t)) (hb:PW X (.BoolOp .And (b::rest) pos) (zK κ E u)):PW X (.BoolOp .And (a::b::rest) pos) (zK κ E (tAnd3 t u)):=PWw (zuc ha hb) fun σ H Q ⟨F,rel,o⟩=>
 (zQ (K:=kT κ) km_T rel o).mono fun c H1 ⟨β1,h1,x,e1,⟨ec,r1⟩,o1⟩=>by
  subst ec
  cases c with
  | true=>rw [if_pos rfl] at o1 ⊢;exact ⟨F.to β1 h1,r1,o1⟩
  | false=>rw [if_neg Bool.false_ne_true] at o1 ⊢;exact o1 β1 false H1 Ext.refl ⟨rfl,r1⟩
theorem zgy {t u:T3} {rest:List Expr} (ha:PT X a (zK κ E t)) (hb:PW X (.BoolOp .Or (b::rest) pos) (zK κ E u)):PW X (.BoolOp .Or (a::b::rest) pos) (zK κ E (tOr3 t u)):=PWw (zur ha hb) fun σ H Q ⟨F,rel,o⟩=>
 (zQ (K:=kT κ) km_T rel o).mono fun c H1 ⟨β1,h1,x,e1,⟨ec,r1⟩,o1⟩=>by
  subst ec
  cases c with
  | true=>rw [if_pos rfl] at o1 ⊢;exact o1 β1 true H1 Ext.refl ⟨rfl,r1⟩
  | false=>rw [if_neg Bool.false_ne_true] at o1 ⊢;exact ⟨F.to β1 h1,r1,o1⟩
theorem yF {t:T3} (ha:PT X a (zK κ E t)):PT X (.UnaryOp .Not a pos) (zK κ E (tNot3 t)):=PTw (ztu ha) fun σ H Q ⟨F,rel,o⟩=>
 (zQ (K:=kT κ) km_T rel o).mono fun c H1 ⟨β1,h1,x,e1,⟨ec,r1⟩,o1⟩=>by
  subst ec
  exact o1 β1 _ H1 Ext.refl ⟨rfl,r1⟩
def eAnd (a b:E3):E3:=fun s h=>(tE a s h).bind fun c h1=>if c=true then b s h1 else .ok (.v (.bl false)) h1
def eOr (a b:E3):E3:=fun s h=>(tE a s h).bind fun c h1=>if c=true then .ok (.v (.bl true)) h1 else b s h1
def eNot (a:E3):E3:=fun s h=>(tE a s h).bind fun c h1=> .ok (.v (.bl !c)) h1
theorem zk1 {d u:E3} {rest:List Expr} (ha:PE X a (zf κ E d)) (hb:PE X (.BoolOp .And (b::rest) pos) (zf κ E u)):PE X (.BoolOp .And (a::b::rest) pos) (zf κ E (eAnd d u)):=zZ (zsd ha hb) fun σ H Q ⟨F,rel,o⟩=>by
 refine tOf.mono (zol (zQ (a:=tE d) (K:=kT κ) zF rel o)) fun x H1 ⟨k,ex,β1,h1,c,e1,⟨ec,r1⟩,o1⟩=>⟨k,ex,?_⟩
 subst ec
 cases k with
 | true=>rw [if_pos rfl] at o1 ⊢;exact ⟨F.to β1 h1,r1,o1⟩
 | false=>rw [if_neg Bool.false_ne_true] at o1 ⊢;exact o1 β1 _ H1 Ext.refl ⟨r1,.bl false⟩
theorem zui {d:E3} (ha:PE X a (zf κ E d)):PE X (.UnaryOp .Not a pos) (zf κ E (eNot d)):=zZ (zte ha) fun σ H Q ⟨F,rel,o⟩=>by
 refine tOf.mono (zol (zQ (a:=tE d) (K:=kT κ) zF rel o)) fun x H1 ⟨k,ex,β1,h1,c,e1,⟨ec,r1⟩,o1⟩=>⟨k,ex,?_⟩
 subst ec
 exact o1 β1 _ H1 Ext.refl ⟨r1,.bl _⟩
theorem zlu {op} {d:E3} (h:PE X a (zf κ E d)):PE X (.BoolOp op [a] pos) (zf κ E d):=zr6 h
def eIf (t:T3) (a b:E3):E3:=fun s h=>(t s h).bind fun c h1=>if c=true then a s h1 else b s h1
end
inductive O3 where
 | nx (s:S3) (h:H3) | rt (r:Vl) (h:H3) | bk (s:S3) (h:H3) | ct (s:S3) (h:H3) | ex (x:X3) (h:H3) | no
abbrev D3:=S3→H3→O3
structure SExt (F:Fr) (H:Hp) (F':Fr) (H':Hp):Prop where
 ext:Ext (fun a=>some a∈F.l) F.β H F'.β H'
 lam: ∀a,some a∈F'.l→some a∈F.l∨H a=none
 oi:F'.Oi=F.Oi
 tt:F'.T=[]
abbrev NwS (F:Fr) (H:Hp):Addr→Prop:=fun p=>some p∈F.l∨H p=none
def SOut (κ:Kx) (E:XK) (F:Fr) (H:Hp) (D:Ends):O3→Prop
 | .nx s' h'=> ∀F' σ' H',SExt F H F' H'→F'.s=s'→F'.h=h'→Rel κ F' σ' H'→D.nx σ' H'
 | .bk s' h'=> ∀F' σ' H',SExt F H F' H'→F'.s=s'→F'.h=h'→Rel κ F' σ' H'→D.bk σ' H'
 | .ct s' h'=> ∀F' σ' H',SExt F H F' H'→F'.s=s'→F'.h=h'→Rel κ F' σ' H'→D.ct σ' H'
 | .rt r h'=> ∀F' σ' v H',SExt F H F' H'→F'.h=h'→Post κ (NwS F H) F' σ' H' r v→D.rt v H'
 | .ex x h'=> ∀F' H',SExt F H F' H'→RelH κ F'.Oi F'.β h' H'→XOk κ E x F'.β F'.Oi H'
 | .no=>False
def zq (κ:Kx) (E:XK) (d:D3):TS:=fun D σ H=> ∃F,Rel κ F σ H∧F.T=[]∧SOut κ E F H D (d F.s F.h)
section
variable {X:Cx} {κ:Kx} {E:XK} {F F1 F2:Fr} {σ σ':St} {H H1 H2 H':Hp} {Q:VK} {r:R} {p:Addr} {e a b:Expr} {pos:Pos} {i:Nat} {D:Ends}
theorem SExt.refl (ht:F.T=[]):SExt F H F H:=⟨Ext.refl,fun _ h=> .inl h,rfl,ht⟩
theorem SExt.trans (a:SExt F H F1 H1) (b:SExt F1 H1 F2 H2):SExt F H F2 H2 where
 ext:=⟨fun x o h n m=>(by
   obtain ⟨h1,n1⟩:=a.ext.keep x o h n m
   refine b.ext.keep x o h1 n1 fun z=>?_
   rcases a.lam x z with q | q
   ·exact m q
   ·rw [h] at q;cases q),Nat.le_trans a.ext.len b.ext.len,fun i x hi h=>a.ext.bet i x hi (b.ext.bet i x (Nat.lt_of_lt_of_le hi a.ext.len) h),fun x o h=>let ⟨o1,h1⟩:=a.ext.there x o h;b.ext.there x o1 h1,zh0 a.ext.there (fun i x hi h=>b.ext.bet i x hi h) a.ext.nwb b.ext.nwb⟩
 lam:=fun x h=>by
  rcases b.lam x h with q | q
  ·exact a.lam x q
  ·cases w:H x with
   | none=>exact .inr rfl
   | some o=>
    obtain ⟨o',z⟩:=a.ext.there x o w
    rw [q] at z;cases z
 oi:=b.oi.trans a.oi
 tt:=b.tt
theorem SExt.of0 {β':List (Option Addr)} {h':H3} (ht:F.T=[]) (e:Ext No F.β H β' H'):SExt F H (F.to β' h') H':=
 ⟨⟨fun x o h n _=>e.keep x o h n fun z=>z,e.len,e.bet,e.there,e.nwb⟩,fun _ h=> .inl h,rfl,ht⟩
theorem SOut.move {o:O3} (e:SExt F H F1 H1) (h:SOut κ E F H D o):SOut κ E F1 H1 D o:=by
 cases o with
 | nx s h'=>exact fun F2 σ2 H2 e2=>h F2 σ2 H2 (e.trans e2)
 | bk s h'=>exact fun F2 σ2 H2 e2=>h F2 σ2 H2 (e.trans e2)
 | ct s h'=>exact fun F2 σ2 H2 e2=>h F2 σ2 H2 (e.trans e2)
 | rt r h'=>exact fun F2 σ2 v H2 e2 eh q=>h F2 σ2 v H2 (e.trans e2) eh (q.imp fun p hp=>hp.elim (e.lam p) fun z=> .inr (e.ext.nw p z))
 | ex x h'=>exact fun F2 H2 e2=>h F2 H2 (e.trans e2)
 | no=>exact h
theorem qc {st:Stmt} {t t':TS} (h:PS X st t) (w: ∀D σ H,t' D σ H→t D σ H):PS X st t':=fun pins s σ H D I q=>h pins s σ H D I (w D σ H q)
theorem PSsw {st:List Stmt} {t t':TS} (h:z8 X st t) (w: ∀D σ H,t' D σ H→t D σ H):z8 X st t':=fun pins s σ H D I q=>h pins s σ H D I (w D σ H q)
def sSkip:D3:=fun s h=> .nx s h
def sSeq (a b:D3):D3:=fun s h=>match a s h with
 | .nx s1 h1=>b s1 h1
 | o=>o
theorem yq:z8 X [] (zq κ E sSkip):=PSsw zqt fun D σ H ⟨F,rel,ht,o⟩=>o F σ H (.refl ht) rfl rfl rel
theorem zB {st:Stmt} {rest:List Stmt} {da db:D3} (h1:PS X st (zq κ E da)) (h2:z8 X rest (zq κ E db)):z8 X (st::rest) (zq κ E (sSeq da db)):=PSsw (zo1 h1 h2) fun D σ H ⟨F,rel,ht,o⟩=>by
 refine ⟨F,rel,ht,?_⟩
 unfold sSeq at o
 cases q:da F.s F.h with
 | nx s1 h1=>
  rw [q] at o
  intro F' σ' H' e es eh r'
  refine ⟨F',r',e.tt,?_⟩
  rw [es,eh]
  exact SOut.move e o
 | rt r h=>rw [q] at o;exact o
 | bk s h=>rw [q] at o;exact o
 | ct s h=>rw [q] at o;exact o
 | ex x h=>rw [q] at o;exact o
 | no=>rw [q] at o;exact o
theorem zA {st:Stmt} {da:D3} (h1:PS X st (zq κ E da)):z8 X [st] (zq κ E da):=zmt h1
theorem qi {α:Type} {l:List α} {i j:Nat} {x y:α} (h:(l.set i x)[j]? =some y):(i=j∧y=x)∨(i≠j∧l[j]? =some y):=by
 rw [List.getElem?_set] at h
 by_cases e:i=j
 ·rw [if_pos e] at h
  by_cases e2:i < l.length
  ·rw [if_pos e2] at h;exact .inl ⟨e,(Option.some.inj h).symm⟩
  ·rw [if_neg e2] at h;cases h
 ·rw [if_neg e] at h;exact .inr ⟨e,h⟩
theorem qf {l:List (Option Addr)} {i:Nat} {x:Option Addr} {a:Addr} (h:some a∈l.set i x):(x=some a)∨(some a∈l∧∃j,j≠i∧l[j]? =some (some a)):=by
 obtain ⟨j,hj⟩:=List.getElem?_of_mem h
 rcases qi hj with ⟨_,e⟩ | ⟨n,e⟩
 ·exact .inl e.symm
 ·exact .inr ⟨List.mem_of_getElem? e,j,fun z=>n z.symm,e⟩
abbrev Fr.setV (F:Fr) (i:Nat) (x:V3):Fr:={F with s:=F.s.set i (some (.v x)),l:=F.l.set i none}
abbrev Fr.setM (F:Fr) (i:Nat) (c:C3) (p:Addr):Fr:={F with s:=F.s.set i (some (.m c)),l:=F.l.set i (some p)}
abbrev Fr.setN (F:Fr) (i:Nat):Fr:={F with s:=F.s.set i none,l:=F.l.set i none}
theorem zh4 {F:Fr} {i:Nat} {s:S3} {a:Addr} (h:({F with s:=s,l:=F.l.set i none}:Fr).O a):F.O a:=by
 rcases h with h | h | h
 ·exact .inl h
 ·rcases qf h with z | z
  ·cases z
  ·exact .inr (.inl z.1)
 ·exact .inr (.inr h)
theorem Rel.setGen {F:Fr} {i:Nat} {s:S3} {σ':St} (rel:Rel κ F σ H) (hsl:s.length=F.s.length) (hσ:σ'.length=σ.length)
  (hslot: ∀(j:Nat) x,s[j]? =some (some x)→(∃v,σ'[j]? =some (some v)∧SlotR κ ({F with s:=s,l:=F.l.set i none}:Fr) H j x v)):Rel κ {F with s:=s,l:=F.l.set i none} σ' H where
 heap:=rel.heap.sub fun a ha=>zh4 ha
 slen:=by show s.length=_;rw [hsl,hσ];exact rel.slen
 llen:=by show (F.l.set i none).length=s.length;rw [List.length_set,hsl];exact rel.llen
 linj:=fun j k a h1 h2=>by
  rcases qi h1 with ⟨_,z⟩ | ⟨_,z1⟩
  ·cases z
  ·rcases qi h2 with ⟨_,z⟩ | ⟨_,z2⟩
   ·cases z
   ·exact rel.linj j k a z1 z2
 lt:=fun a ha=>by
  rcases qf ha with z | z
  ·cases z
  ·exact rel.lt a z.1
 lo:=fun a ha=>by
  rcases qf ha with z | z
  ·cases z
  ·exact rel.lo a z.1
 to:=rel.to
 tn:=rel.tn
 slot:=hslot
theorem Rel.slotNe {F:Fr} {i j:Nat} {s:S3} {x:Vl} {v:V} (hn:i≠j) (q:SlotR κ F H j x v):SlotR κ ({F with s:=s,l:=F.l.set i none}:Fr) H j x v:=by
 cases x with
 | v x=>exact Rep.sub (fun a ha=>zh4 ha) q
 | m c=>
  obtain ⟨a,h1,h2,h3⟩:=q
  refine ⟨a,?_,h2,h3.sub fun a ha=>zh4 ha⟩
  show (F.l.set i none)[j]? =_
  rw [List.getElem?_set,if_neg hn];exact h1
theorem Rel.setV {x:V3} {v:V} (rel:Rel κ F σ H) (hr:Rep κ F.β F.O H x v) (hi:i < F.s.length):Rel κ (F.setV i x) (σ.set i (some v)) H:=by
 refine rel.setGen (by rw [List.length_set]) (by rw [List.length_set]) fun j y hj=>?_
 rcases qi hj with ⟨e,z⟩ | ⟨n,z⟩
 ·subst e;cases z
  refine ⟨v,?_,Rep.sub (fun a ha=>zh4 ha) hr⟩
  rw [List.getElem?_set,if_pos rfl,if_pos (by rw [←rel.slen];exact hi)]
 ·obtain ⟨w,h1,h2⟩:=rel.slot j y z
  exact ⟨w,by rw [List.getElem?_set,if_neg n];exact h1,Rel.slotNe n h2⟩
theorem Rel.setN {i:Nat} (rel:Rel κ F σ H):Rel κ (F.setN i) σ H:=by
 refine rel.setGen (by rw [List.length_set]) rfl fun j y hj=>?_
 rcases qi hj with ⟨e,z⟩ | ⟨n,z⟩
 ·cases z
 ·obtain ⟨w,h1,h2⟩:=rel.slot j y z
  exact ⟨w,h1,Rel.slotNe n h2⟩
theorem zjg {F:Fr} {i:Nat} {s:S3} {a p:Addr} (h:({F with s:=s,l:=F.l.set i (some p)}:Fr).O a):(F.with p).O a:=by
 rcases h with h | h | h
 ·exact .inl (List.mem_cons_of_mem _ h)
 ·rcases qf h with z | z
  ·cases z;exact .inl List.mem_cons_self
  ·exact .inr (.inl z.1)
 ·exact .inr (.inr h)
theorem Rel.setM {c:C3} (rel:Rel κ (F.with p) σ H) (hr:CellR κ F.β (F.with p).O H c p) (hi:i < F.s.length):Rel κ (F.setM i c p) (σ.set i (some (.ref p))) H where
 heap:=rel.heap.sub fun a ha=>zjg ha
 slen:=by show (F.s.set i _).length=_;rw [List.length_set,List.length_set];exact rel.slen
 llen:=by show (F.l.set i _).length=(F.s.set i _).length;rw [List.length_set,List.length_set];exact rel.llen
 linj:=fun j k a h1 h2=>by
  rcases qi h1 with ⟨e1,z1⟩ | ⟨n1,z1⟩ <;> rcases qi h2 with ⟨e2,z2⟩ | ⟨n2,z2⟩
  ·omega
  ·cases z1;exact absurd List.mem_cons_self (rel.lt p (List.mem_of_getElem? z2))
  ·cases z2;exact absurd List.mem_cons_self (rel.lt p (List.mem_of_getElem? z1))
  ·exact rel.linj j k a z1 z2
 lt:=fun a ha z=>by
  rcases qf ha with q | q
  ·cases q;exact (List.nodup_cons.mp rel.tn).1 z
  ·exact rel.lt a q.1 (List.mem_cons_of_mem _ z)
 lo:=fun a ha=>by
  rcases qf ha with q | q
  ·cases q;exact rel.to p List.mem_cons_self
  ·exact rel.lo a q.1
 to:=fun a ha=>rel.to a (List.mem_cons_of_mem _ ha)
 tn:=(List.nodup_cons.mp rel.tn).2
 slot:=fun j y hj=>by
  rcases qi hj with ⟨e,z⟩ | ⟨n,z⟩
  ·subst e;cases z
   refine ⟨.ref p,?_,p,?_,rfl,hr.sub fun a ha=>zjg ha⟩
   ·rw [List.getElem?_set,if_pos rfl,if_pos (by rw [←rel.slen];exact hi)]
   ·show (F.l.set i _)[i]? =_
    rw [List.getElem?_set,if_pos rfl,if_pos (by have h:=rel.llen;show i < F.l.length;rw [show F.l.length=F.s.length from h];exact hi)]
  ·obtain ⟨w,h1,h2⟩:=rel.slot j y z
   refine ⟨w,by rw [List.getElem?_set,if_neg n];exact h1,?_⟩
   cases y with
   | v x=>exact Rep.sub (fun a ha=>zjg ha) h2
   | m c=>
    obtain ⟨a,q1,q2,q3⟩:=h2
    refine ⟨a,?_,q2,q3.sub fun a ha=>zjg ha⟩
    show (F.l.set i _)[j]? =_
    rw [List.getElem?_set,if_neg n];exact q1
theorem SExt.setN {s:S3} (ht:F.T=[]):SExt F H ({F with s:=s,l:=F.l.set i none}:Fr) H:=
 ⟨Ext.refl,fun a h=>by
  rcases qf h with z | z
  ·cases z
  ·exact .inl z.1,rfl,ht⟩
def Res.bindS {α:Type} (r:Res α) (k:α→H3→O3):O3:=match r with
 | .ok r h=>k r h
 | .ex x h=> .ex x h
 | .no=> .no
theorem bindS {α ω:Type} {K:Kd α ω} {a:S3→H3→Res α} {k:α→H3→O3} (rel:Rel κ F σ H) (ht:F.T=[]) (o:SOut κ E F H D ((a F.s F.h).bindS k)):
  tOf κ E K a σ H (fun w H1=> ∃β1 h1 x,Ext No F.β H β1 H1∧K H (F.to β1 h1) σ H1 x w∧SOut κ E F H D (k x h1)):=by
 refine ⟨F,rel,?_⟩
 cases q:a F.s F.h with
 | no=>rw [q] at o;exact o
 | ex x h1=>rw [q] at o;exact fun β' H' e r=>o (F.to β' h1) H' (SExt.of0 ht e) r
 | ok r h1=>rw [q] at o;exact fun β1 v H1 e p=>⟨β1,h1,r,e,p,o⟩
def sSet (i:Nat) (e:E3):D3:=fun s h=>(e s h).bindS fun r h1=>if i < s.length then .nx (s.set i (some r)) h1 else .no
theorem zth {d:E3} (h:zq κ E (sSet i d) D σ H):zf κ E d σ H (fun v H1=>D.nx (σ.set i (some v)) H1):=by
 obtain ⟨F,rel,ht,o⟩:=h
 refine (bindS (K:=kE κ) rel ht o).mono fun v H1 ⟨β1,h1,r,e1,p1,o⟩=>?_
 by_cases hi:i < F.s.length
 ·rw [if_pos hi] at o
  cases r with
  | v x=>
   obtain ⟨r1,r2⟩:=p1
   exact o ((F.to β1 h1).setV i x) _ H1 ((SExt.of0 (h':=h1) ht e1).trans (SExt.setN ht)) rfl rfl (r1.setV r2 hi)
  | m c=>
   obtain ⟨p,rfl,r1,r2,hp⟩:=p1
   refine o ((F.to β1 h1).setM i c p) _ H1 ?_ rfl rfl (r1.setM r2 hi)
   exact ⟨(SExt.of0 (h':=h1) ht e1).ext,fun a ha=>by
    rcases qf ha with z | z
    ·cases z;exact .inr hp
    ·exact .inl z.1,rfl,ht⟩
 ·rw [if_neg hi] at o;exact o.elim
theorem ye {x:Str} {pos':Pos} {d:E3} (hN:X.N.Nodup) (hi:X.N[i]? =some x) (hx:Loc X.env.scope x) (he:PE X e (zf κ E d)) (hs:swapsWith e (some (.Name x pos')) pos.line X.env=pure false:=by rfl)
 (hf:X.fn x=true∨X.env.scope.names.lookup x=some .local:=by first | exact .inl rfl | exact .inr rfl | assumption):PS X (.Assign [.Name x pos'] e pos) (zq κ E (sSet i d)):=qc (zt0 hN hi hx he hs hf) fun D σ H h=>zth h
def sExp (e:E3):D3:=fun s h=>(e s h).bindS fun _ h1=> .nx s h1
def sRet (e:E3):D3:=fun s h=>(e s h).bindS fun r h1=> .rt r h1
theorem zR {d:E3} (he:PE X e (zf κ E d)):PS X (.Return (some e) pos) (zq κ E (sRet d)):=qc (zld he) fun D σ H ⟨F,rel,ht,o⟩=>
 (bindS (K:=kE κ) rel ht o).mono fun v H1 ⟨β1,h1,r,e1,p1,o⟩=>o (F.to β1 h1) σ v H1 (SExt.of0 ht e1) rfl (p1.imp fun p hp=> .inr hp)
def sRetN:D3:=fun _ h=> .rt (.v .non) h
theorem Rel.take {c:C3} (rel:Rel κ F σ H) (hl:F.l[i]? =some (some p)):Rel κ ((F.setN i).with p) σ H:=by
 have r1:=rel.setN (i:=i)
 have ho: ∀a,((F.setN i).with p).O a→F.O a:=fun a ha=>by
  rcases ha with z | z
  ·rcases List.mem_cons.mp z with z | z
   ·subst z;exact .inr (.inl (List.mem_of_getElem? hl))
   ·exact .inl z
  ·rcases z with z | z
   ·rcases qf z with w | w
    ·cases w
    ·exact .inr (.inl w.1)
   ·exact .inr (.inr z)
 have hb: ∀a,some a∈F.l.set i none→a≠p:=fun a ha z=>by
  subst z
  rcases qf ha with w | ⟨_,j,hj,w⟩
  ·cases w
  ·exact hj (rel.linj j i a w hl)
 refine ⟨rel.heap.sub ho,r1.slen,r1.llen,r1.linj,fun a ha z=>?_,r1.lo,fun a ha z=>?_,List.nodup_cons.mpr ⟨fun z=>rel.lt p (List.mem_of_getElem? hl) z,rel.tn⟩,fun j y hj=>?_⟩
 ·rcases List.mem_cons.mp z with z | z
  ·exact hb a ha z
  ·exact r1.lt a ha z
 ·rcases List.mem_cons.mp ha with h | h
  ·subst h;exact rel.lo a (List.mem_of_getElem? hl) z
  ·exact rel.to a h z
 ·rcases qi hj with ⟨_,z⟩ | ⟨n,z⟩
  ·cases z
  ·obtain ⟨w,h1,h2⟩:=rel.slot j y z
   refine ⟨w,h1,?_⟩
   cases y with
   | v x=>exact Rep.sub ho h2
   | m c=>
    obtain ⟨a,q1,q2,q3⟩:=h2
    refine ⟨a,?_,q2,q3.sub ho⟩
    show (F.l.set i none)[j]? =_
    rw [List.getElem?_set,if_neg n];exact q1
theorem ztn {a:Addr} (hl:F.l[i]? =some (some p)) (ha:((F.setN i).with p).O a):F.O a:=by
 rcases ha with z | z
 ·rcases List.mem_cons.mp z with z | z
  ·subst z;exact .inr (.inl (List.mem_of_getElem? hl))
  ·exact .inl z
 ·rcases z with z | z
  ·rcases qf z with w | w
   ·cases w
   ·exact .inr (.inl w.1)
  ·exact .inr (.inr z)
def sRetS (i:Nat):D3:=fun s h=>match s[i]? with
 | some (some r)=> .rt r h
 | _=> .no
theorem zf8 (hv:PE X e (tVar i)):PS X (.Return (some e) pos) (zq κ E (sRetS i)):=qc (zld hv) fun D σ H ⟨F,rel,ht,o⟩=>by
 unfold sRetS at o
 cases q:F.s[i]? with
 | none=>rw [q] at o;exact o.elim
 | some z=>
  rw [q] at o
  match z,q,o with
  | none,q,o=>exact o.elim
  | some (.v x),q,o=>
   obtain ⟨v,h1,h2⟩:=rel.slot i _ q
   exact ⟨v,h1,o F σ v H (.refl ht) rfl ⟨rel,h2⟩⟩
  | some (.m c),q,o=>
   obtain ⟨v,h1,a,h2,h3,h4⟩:=rel.slot i _ q
   subst h3
   exact ⟨_,h1,o (F.setN i) σ (.ref a) H (SExt.setN ht) rfl ⟨a,rfl,Rel.take (c:=c) rel h2,h4.sub fun b hb=>ztn h2 hb,.inl (List.mem_of_getElem? h2)⟩⟩
def sFz (i:Nat):D3:=fun s h=>match s[i]? with
 | some (some (.m c))=>match c.fz with
  | some x=> .nx (s.set i (some (.v x))) h
  | none=> .no
 | _=> .nx s h
theorem zvu {d:D3} (h:zq κ E (sSeq (sFz i) d) D σ H):zq κ E d D σ H:=by
 obtain ⟨F,rel,ht,o⟩:=h
 unfold sSeq sFz at o
 have same:(match (F.s[i]? :Option (Option Vl)) with | some (some (.m c))=>False | _=>True)→SOut κ E F H D (d F.s F.h)→zq κ E d D σ H:=fun _ o=>⟨F,rel,ht,o⟩
 cases q:F.s[i]? with
 | none=>rw [q] at o same;exact same trivial o
 | some z=>
  rw [q] at o same
  match z,q,o,same with
  | none,q,o,same=>exact same trivial o
  | some (.v x),q,o,same=>exact same trivial o
  | some (.m c),q,o,same=>
   cases z:c.fz with
   | none=>simp only [z] at o;exact o.elim
   | some x=>
    simp only [z] at o
    obtain ⟨v,h1,a,h2,h3,h4⟩:=rel.slot i _ q
    subst h3
    have hi:i < F.s.length:=(List.getElem?_eq_some_iff.mp q).1
    have rt:=Rel.take (c:=c) rel h2
    have rep:Rep κ F.β (F.setN i).O H x (.ref a):=(h4.sub (O':=(F.setN i).O) fun b hb=>zh4 hb).fz z rt.offp rt.apart
    have r2:=(rel.setN (i:=i)).setV (i:=i) (x:=x) (v:= .ref a) rep (by show i < (F.s.set i none).length;rw [List.length_set];exact hi)
    have e1:(F.setN i).setV i x=F.setV i x:=by
     show ({F with s:=(F.s.set i none).set i _,l:=(F.l.set i none).set i none}:Fr)={F with s:=F.s.set i _,l:=F.l.set i none}
     rw [List.set_set,List.set_set]
    have e2:σ.set i (some (.ref a))=σ:=by
     apply List.ext_getElem?;intro j
     rw [List.getElem?_set]
     by_cases hj:i=j
     ·subst hj;rw [if_pos rfl,if_pos (by rw [←rel.slen];exact hi),h1]
     ·rw [if_neg hj]
    rw [e1,e2] at r2
    exact ⟨F.setV i x,r2,ht,SOut.move (SExt.setN ht) o⟩
theorem qh {sts:List Stmt} {d:D3} (i:Nat) (h:z8 X sts (zq κ E d)):z8 X sts (zq κ E (sSeq (sFz i) d)):=PSsw h fun D σ H q=>zvu q
def sIf (t:T3) (a b:D3):D3:=fun s h=>(t s h).bindS fun c h1=>if c=true then a s h1 else b s h1
theorem yp {c:Expr} {sa sb:List Stmt} {t:T3} {da db:D3} (hc:PT X c (zK κ E t)) (ha:z8 X sa (zq κ E da)) (hb:z8 X sb (zq κ E db)):PS X (.If c sa sb pos) (zq κ E (sIf t da db)):=qc (zup hc ha hb) fun D σ H ⟨F,rel,ht,o⟩=>
 (bindS (K:=kT κ) rel ht o).mono fun c H1 ⟨β1,h1,x,e1,⟨ec,r1⟩,o1⟩=>by
  subst ec
  have mv:=SExt.of0 (h':=h1) ht e1
  cases c with
  | true=>rw [if_pos rfl] at o1 ⊢;exact ⟨F.to β1 h1,r1,ht,SOut.move mv o1⟩
  | false=>rw [if_neg Bool.false_ne_true] at o1 ⊢;exact ⟨F.to β1 h1,r1,ht,SOut.move mv o1⟩
def sNever:D3:=fun _ _=> .no
abbrev G3:=V3→S3→Option S3
abbrev Gs3:=List V3→S3→Option S3
def gN (i:Nat):G3:=fun x s=>if i < s.length then some (s.set i (some (.v x))) else none
def gsNil:Gs3:=fun xs s=>match xs with
 | []=>some s
 | _=>none
def gsCons (g:G3) (gs:Gs3):Gs3:=fun xs s=>match xs with
 | x::r=>(g x s).bind fun s1=>gs r s1
 | []=>none
def gT (gs:Gs3):G3:=fun x s=>match x with
 | .tup xs=>gs xs s
 | _=>none
def gL (gs:Gs3):G3:=fun x s=>match x with
 | .lst xs=>gs xs s
 | _=>none
def tgOf (κ:Kx) (g:G3):TG:=fun v σ H Q=> ∃F x s',Rel κ F σ H∧F.T=[]∧Rep κ F.β F.O H x v∧g x F.s=some s'∧∀F' σ',SExt F H F' H→F'.β=F.β→F'.s=s'→F'.h=F.h→Rel κ F' σ' H→Q σ' H
def zno (κ:Kx) (g:Gs3):TGs:=fun vs σ H Q=> ∃F xs s',Rel κ F σ H∧F.T=[]∧Reps κ F.β F.O H xs vs∧g xs F.s=some s'∧∀F' σ',SExt F H F' H→F'.β=F.β→F'.s=s'→F'.h=F.h→Rel κ F' σ' H→Q σ' H
theorem PGw {tg:Expr} {t t':TG} (h:PG X tg t) (w: ∀v σ H Q,t' v σ H Q→t v σ H Q):PG X tg t':=fun pins s σ H v u Q I r q=>h pins s σ H v u Q I r (w v σ H Q q)
theorem PGsw {tg:List Expr} {t t':TGs} (h:qe X tg t) (w: ∀v σ H Q,t' v σ H Q→t v σ H Q):qe X tg t':=fun pins s σ H v u Q I r q=>h pins s σ H v u Q I r (w v σ H Q q)
theorem zpk {a:Addr} {o:HO} (e:SExt F H F' H') (ha:H a=some o) (n: ¬F.O a): ¬F'.O a:=fun z=>by
 rcases z with z | z | z
 ·rw [e.tt] at z;cases z
 ·rcases e.lam a z with w | w
  ·exact n (.inr (.inl w))
  ·rw [ha] at w;cases w
 ·rw [e.oi] at z;exact n (.inr (.inr z))
theorem Rep.sext {x:V3} {v:V} (e:SExt F H F' H') (r:Rep κ F.β F.O H x v):Rep κ F'.β F'.O H' x v:=r.ext e.ext (fun a h=> .inr (.inl h)) fun a o ha n=>zpk e ha n
theorem Reps.sext {x:List V3} {v:List V} (e:SExt F H F' H') (r:Reps κ F.β F.O H x v):Reps κ F'.β F'.O H' x v:=r.ext e.ext (fun a h=> .inr (.inl h)) fun a o ha n=>zpk e ha n
theorem yV {tg:Expr} (h:PG X tg (zou i)):PG X tg (tgOf κ (gN i)):=PGw h fun v σ H Q ⟨F,x,s',rel,ht,r,e,k⟩=>by
 unfold gN at e
 by_cases hi:i < F.s.length
 ·rw [if_pos hi] at e;cases e
  exact k (F.setV i x) _ (SExt.setN ht) rfl rfl rfl (rel.setV r hi)
 ·rw [if_neg hi] at e;cases e
theorem zhd:qe X [] (zno κ gsNil):=PGsw zrs fun v σ H Q ⟨F,xs,s',rel,ht,r,e,k⟩=>by
 cases r with
 | nil=>cases e;exact ⟨rfl,k F σ (.refl ht) rfl rfl rfl rel⟩
 | cons _ _=>cases e
theorem zch {es:List Expr} {g:G3} {gs:Gs3} (h1:PG X e (tgOf κ g)) (h2:qe X es (zno κ gs)) (hh: ∀{t:TG} {u:TGs},PG X e t→qe X es u→qe X (e::es) (zsf t u)):qe X (e::es) (zno κ (gsCons g gs)):=PGsw (hh h1 h2) fun v σ H Q ⟨F,xs,s',rel,ht,r,e,k⟩=>by
 cases r with
 | nil=>cases e
 | @cons x y xs ys a b=>
  cases q:g x F.s with
  | none=>simp only [gsCons,q] at e;cases e
  | some s1=>
   simp only [gsCons,q] at e
   refine ⟨y,ys,rfl,F,x,s1,rel,ht,a,q,fun F1 σ1 e1 b1 s1' h1 r1=>?_⟩
   have e:gs xs s1=some s':=e
   refine ⟨F1,xs,s',r1,e1.tt,b.sext e1,by rw [s1'];exact e,fun F2 σ2 e2 b2 s2' h2 r2=>?_⟩
   exact k F2 σ2 (e1.trans e2) (b2.trans b1) s2' (h2.trans h1) r2
theorem zj8 {tg:Expr} {gs:Gs3} {n:Nat} (h:PG X tg (gTup X.K n (zno κ gs))) (hn: ∀xs s s',gs xs s=some s'→xs.length=n):PG X tg (tgOf κ (gT gs)):=PGw h fun v σ H Q ⟨F,x,s',rel,ht,r,e,k⟩=>by
 unfold gT at e
 cases x <;> first | cases e | skip
 cases r with
 | tup h1 h2 h3 h4=>exact ⟨_,_,rfl,.of h1,by rw [←h4.length];exact hn _ _ _ e,F,_,s',rel,ht,h4,e,k⟩
def sAsg (g:G3) (e:E3):D3:=fun s h=>(e s h).bindS fun r h1=>match r.fz with
 | some x=>match g x s with
  | some s1=> .nx s1 h1
  | none=> .no
 | none=> .no
end
structure It3 where
 its:List V3
 xs:List V3
 ok:H3→Prop
def IR (κ:Kx) (it:It3) (vs:List V) (J:It):Prop:=∀(F:Fr) (σ:St) (H:Hp),Rel κ F σ H→Reps κ F.β F.O H it.its vs→it.ok F.h→∀i:Nat,
 (i < it.xs.length→J.go i H∧∀x H',J.yld i H x H'→∃x3,it.xs[i]? =some x3∧Ext No F.β H F.β H'∧Rel κ F σ H'∧Rep κ F.β F.O H' x3 x)∧(it.xs.length≤i→J.stop i H)
abbrev I3:=S3→H3→Res It3
def kI (κ:Kx):Kd It3 It:=fun _ F σ H' it J=>Rel κ F σ H'∧∃vs,Reps κ F.β F.O H' it.its vs∧IR κ it vs J
abbrev tiOf (κ:Kx) (E:XK) (d:I3):TI:=tOf κ E (kI κ) d
open Classical in
def zt (ok:H3→Prop) (g:G3) (b:D3):List V3→S3→H3→O3
 | [],s,h=>if ok h then .nx s h else .no
 | x::r,s,h=>if ok h then match g x s with
  | none=> .no
  | some s1=>match b s1 h with
   | .nx s2 h2=>zt ok g b r s2 h2
   | .ct s2 h2=>zt ok g b r s2 h2
   | .bk s2 h2=> .nx s2 h2
   | o=>o
  else .no
def zx (it:I3) (g:G3) (b:D3):D3:=fun s h=>(it s h).bindS fun I h1=>zt I.ok g b I.xs s h1
open Classical in
section
variable {X:Cx} {κ:Kx} {E:XK} {F F1 F2 F':Fr} {σ σ':St} {H H1 H2 H':Hp} {Q:VK} {p:Addr} {e a b:Expr} {pos:Pos} {i:Nat} {D:Ends}
theorem km_I:zhk (kI κ):=fun _ _ _ _ _ _ _ _ _ _ _ h=>h
theorem zsc {it:I3} {g:G3} {b:D3} (h:zq κ E (zx it g b) D σ H):tFor (tiOf κ E it) (tgOf κ g) (zq κ E b) D σ H:=by
 obtain ⟨F,rel,ht,o⟩:=h
 refine (bindS (K:=kI κ) rel ht o).mono fun J H1 ⟨β1,h1,I,e1,⟨r1,vs,rv,ir⟩,o1⟩=>?_
 refine ⟨fun i m σ H=>m=I.xs.length - i∧i≤I.xs.length∧∃Fk,Rel κ Fk σ H∧Fk.T=[]∧Reps κ Fk.β Fk.O H I.its vs∧SOut κ E Fk H D (zt I.ok g b (I.xs.drop i) Fk.s Fk.h),⟨_,rfl,Nat.zero_le _,F.to β1 h1,r1,ht,rv,SOut.move (SExt.of0 (h':=h1) ht e1) o1⟩,?_⟩
 rintro i m σ' H' ⟨rfl,hi,Fk,rk,tk,vk,ok⟩
 by_cases hok:I.ok Fk.h
 case neg=>
  exfalso
  cases q:I.xs.drop i with
  | nil=>rw [q] at ok;unfold zt at ok;rw [if_neg hok] at ok;exact ok
  | cons x r=>rw [q] at ok;unfold zt at ok;rw [if_neg hok] at ok;exact ok
 obtain ⟨i1,i2⟩:=ir Fk σ' H' rk vk hok i
 by_cases hlt:i < I.xs.length
 ·obtain ⟨go,yl⟩:=i1 hlt
  refine .inr ⟨go,fun σ2 H2=> ∃F2,Rel κ F2 σ2 H2∧F2.T=[]∧Reps κ F2.β F2.O H2 I.its vs∧SOut κ E F2 H2 D (zt I.ok g b (I.xs.drop (i+1)) F2.s F2.h),fun σ2 H2 n2=>⟨_,by omega,rfl,hlt,n2⟩,fun x H'' y=>?_⟩
  obtain ⟨x3,ex,ey,ry,rp⟩:=yl x H'' y
  have hd:I.xs.drop i=x3::I.xs.drop (i+1):=by
   rw [List.drop_eq_getElem_cons hlt]
   congr 1
   rw [z4 hlt] at ex
   exact Option.some.inj ex
  rw [hd] at ok
  have ok:=SOut.move (SExt.of0 (h':=Fk.h) tk ey) ok
  unfold zt at ok
  rw [if_pos hok] at ok
  cases w:g x3 Fk.s with
  | none=>simp only [w] at ok;exact ok.elim
  | some s1=>
   simp only [w] at ok
   refine ⟨Fk,x3,s1,ry,tk,rp,w,fun F3 σ3 e3 b3 s3 h3 r3=>?_⟩
   refine ⟨F3,r3,e3.tt,?_⟩
   rw [s3,h3]
   have ok:=SOut.move e3 ok
   have ev:Reps κ F3.β F3.O H'' I.its vs:=(vk.ext0 ey).sext e3
   cases q:b s1 Fk.h with
   | nx s2 h2=>simp only [q] at ok;exact fun F4 σ4 H4 e4 s4 h4 r4=>⟨F4,r4,e4.tt,ev.sext e4,by rw [s4,h4];exact SOut.move e4 ok⟩
   | ct s2 h2=>simp only [q] at ok;exact fun F4 σ4 H4 e4 s4 h4 r4=>⟨F4,r4,e4.tt,ev.sext e4,by rw [s4,h4];exact SOut.move e4 ok⟩
   | bk s2 h2=>simp only [q] at ok;exact ok
   | rt r h2=>simp only [q] at ok;exact ok
   | ex x h2=>simp only [q] at ok;exact ok
   | no=>simp only [q] at ok;exact ok
 ·have hi:i=I.xs.length:=by omega
  subst hi
  rw [List.drop_length] at ok
  unfold zt at ok
  rw [if_pos hok] at ok
  exact .inl ⟨i2 (Nat.le_refl _),ok Fk σ' H' (.refl tk) rfl rfl rk⟩
theorem ze3 {tg iter:Expr} {body:List Stmt} {it:I3} {g:G3} {b:D3} (hp:PassesOwn (model X.prog X.w) X.A X.env X.xe) (hc:X.calm=true) (hi:PI X tg iter (tiOf κ E it)) (hg:PG X tg (tgOf κ g)) (hb:z8 X body (zq κ E b))
 (hs: ∀x,foldedSetIterable iter X.env x=pure x:=by intro _;rfl):PS X (.For tg iter body [] pos) (zq κ E (zx it g b)):=qc (ztc hp hc hi hg hb hs) fun D σ H h=>zsc h
def yr (h:H3):V3→Option (List V3×(H3→Prop))
 | .lst xs=>some (xs,fun _=>True)
 | .scr ns=>some (ns.map .int,fun _=>True)
 | .loc n=>match h[n]? with
  | some (.lst xs)=>some (xs,fun h=>h[n]? =some (.lst xs))
  | _=>none
 | _=>none
theorem zr3 {F:Fr} {σ:St} {H:Hp} {x:V3} {xs:List V3} {v:V} (rel:Rel κ F σ H) (r:Rep κ F.β F.O H x v) (e:rdl F.s F.h (.x x)=some xs): ∃a ys,v= .ref a∧SqL κ.K H a ys∧Reps κ F.β F.O H xs ys:=ze4 (f:= .x x) rel r e
theorem zen {h:H3} {x:V3} {xs:List V3} {ok:H3→Prop} (e:yr h x=some (xs,ok)):ok h∧∀s h',ok h'→rdl s h' (.x x)=some xs:=by
 cases x <;> simp [yr] at e
 case lst zs=>obtain ⟨rfl,rfl⟩:=e;exact ⟨trivial,fun _ _ _=>rfl⟩
 case scr ns=>obtain ⟨rfl,rfl⟩:=e;exact ⟨trivial,fun _ _ _=>rfl⟩
 case loc n=>
  cases q:h[n]? with
  | none=>rw [q] at e;cases e
  | some c=>
   rw [q] at e
   cases c <;> simp at e
   obtain ⟨rfl,rfl⟩:=e
   exact ⟨q,fun s h' hh=>by simp only [rdl,hh]⟩
theorem zep {F:Fr} {σ:St} {H:Hp} {h:H3} {x:V3} {xs:List V3} {ok:H3→Prop} {v:V} (e:yr h x=some (xs,ok)) (rel:Rel κ F σ H) (r:Rep κ F.β F.O H x v) (hk:ok F.h): ∃a ys,v= .ref a∧SqL κ.K H a ys∧Reps κ F.β F.O H xs ys:=zr3 rel r ((zen e).2 _ _ hk)
theorem PIw {tg iter:Expr} {t t':TI} (h:PI X tg iter t) (w: ∀σ H R,t' σ H R→t σ H R):PI X tg iter t':=fun pins s σ H R I q=>h pins s σ H R I (w σ H R q)
def iL (p:P3):I3:=fun s h=>(p s h).bind fun f h1=>match f with
 | .x x=>match yr h1 x with
  | some (xs,ok)=> .ok ⟨[x],xs,ok⟩ h1
  | none=> .no
 | _=> .no
theorem zfi {tg l:Expr} {d:P3} (hK:X.K=κ.K) (hl:PE X l (zn κ E d)):PI X tg l (tiOf κ E (iL d)):=PIw (zqr hl) fun σ H R ⟨F,rel,o⟩=>
 (zQ (K:=kP κ) km_I rel o).mono fun v H1 ⟨β1,h1,f,e1,⟨r1,rf⟩,o1⟩=>by
  rw [hK]
  match f,rf,o1 with
  | .s _,rf,o1=>exact o1.elim
  | .x x,rf,o1=>
   cases q:yr h1 x with
   | none=>simp only [q] at o1;exact o1.elim
   | some w=>
    obtain ⟨xs,ok⟩:=w
    simp only [q] at o1
    have rf:Rep κ β1 F.O H1 x v:=rf
    obtain ⟨a,ys,ev,sq,rs⟩:=zep (F:=F.to β1 h1) q r1 rf (zen q).1
    subst ev
    refine ⟨a,rfl,⟨ys,sq⟩,o1 β1 _ H1 Ext.refl ⟨r1,[.ref a],.cons rf .nil,fun F' σ' H' rel' r' hk i=>?_⟩⟩
    cases r' with
    | cons r'' _=>
     obtain ⟨a',ys',ev',sq',rs'⟩:=zep q rel' r'' hk
     cases ev'
     refine ⟨fun hi=>⟨?_,fun y H' ⟨e,yl⟩=>?_⟩,fun hi=>⟨ys',sq',by rw [←rs'.length];exact hi⟩⟩
     ·obtain ⟨y,hy,_⟩:=rs'.get (i:=i) (z4 hi)
      exact ⟨ys',y,sq',hy⟩
     ·subst e
      obtain ⟨x3,h1,h2⟩:=rs'.get' (yl ys' sq')
      exact ⟨x3,h1,Ext.refl,rel',h2⟩
end
end L3
namespace L3
open PySem PySem.Spec PyProof.Rows L2
abbrev F3:=List V3→H3→Res Vl
def start3 (n:Nat) (vs:List V3):S3:=vs.map (fun x=>some (.v x))++List.replicate (n - vs.length) none
def O3.res:O3→Res Vl
 | .nx _ h=> .ok (.v .non) h
 | .rt r h=> .ok r h
 | .ex x h=> .ex x h
 | _=> .no
def fun3 (k n:Nat) (b:D3):F3:=fun vs h=>if vs.length=k then (b (start3 n vs) h).res else .no
def PostF (κ:Kx) (N:Addr→Prop) (O:Addr→Prop) (β:List (Option Addr)) (h:H3) (H:Hp):Vl→V→Prop
 | .v x,v=>RelH κ O β h H∧Rep κ β O H x v
 | .m c,v=> ∃p,v= .ref p∧RelH κ (fun a=>a=p∨O a) β h H∧CellR κ β (fun a=>a=p∨O a) H c p∧N p∧¬O p
def FOut (κ:Kx) (E:XK) (O:Addr→Prop) (β:List (Option Addr)) (H:Hp) (Q:VK):Res Vl→Prop
 | .ok r h'=> ∀β' v H',Ext No β H β' H'→PostF κ (Nw H) O β' h' H' r v→Q v H'
 | .ex x h'=> ∀β' H',Ext No β H β' H'→RelH κ O β' h' H'→XOk κ E x β' O H'
 | .no=>False
def zk (κ:Kx) (k:Nat) (f:F3):Sp:=fun vs H Q E=> ∃O β vs3 h3,vs.length=k∧RelH κ O β h3 H∧Reps κ β O H vs3 vs∧FOut κ E O β H Q (f vs3 h3)
section
variable {X:Cx} {κ:Kx} {E:XK} {F F1 F2 F':Fr} {σ σ':L2.St} {H H1 H2 H':Hp} {Q:VK} {p:Addr} {e a b o:Expr} {pos apos np:Pos} {i:Nat} {D:Ends}
theorem yZ {a:Addr} {n:Nat}:some a∉List.replicate n (none:Option Addr):=fun h=>by cases (List.mem_replicate.mp h).2
theorem zkt {n:Nat} {vs3:List V3} {i:Nat} {x:Vl} (h:(start3 n vs3)[i]? =some (some x)): ∃y,vs3[i]? =some y∧x= .v y:=by
 unfold start3 at h
 by_cases hi:i < vs3.length
 ·rw [List.getElem?_append_left (by simpa using hi),List.getElem?_map] at h
  cases q:vs3[i]? with
  | none=>rw [q] at h;cases h
  | some y=>rw [q] at h;cases h;exact ⟨y,rfl,rfl⟩
 ·rw [List.getElem?_append_right (by simpa using hi)] at h
  have:=List.mem_replicate.mp (List.mem_of_getElem? h)
  cases this.2
theorem zhi {O:Addr→Prop} {β:List (Option Addr)} {vs3:List V3} {vs:List V} {h3:H3} {N:List Str} (rh:RelH κ O β h3 H) (rv:Reps κ β O H vs3 vs) (hN:vs.length≤N.length):
  Rel κ ⟨O,[],β,List.replicate N.length none,start3 N.length vs3,h3⟩ (L2.start N vs) H:=by
 have hO: ∀a,(⟨O,[],β,List.replicate N.length none,start3 N.length vs3,h3⟩:Fr).O a→O a:=fun a ha=>by
  rcases ha with z | z | z
  ·cases z
  ·exact absurd z yZ
  ·exact z
 have hl:=rv.length
 refine ⟨rh.sub hO,?_,?_,fun i j a h=>?_,fun a ha=>absurd ha yZ,fun a ha=>absurd ha yZ,fun a ha=>(by cases ha),List.nodup_nil,fun i x hx=>?_⟩
 ·show (start3 N.length vs3).length=_
  unfold start3 L2.start
  simp only [List.length_append,List.length_map,List.length_replicate];omega
 ·show (List.replicate N.length (none:Option Addr)).length=(start3 N.length vs3).length
  unfold start3
  simp only [List.length_append,List.length_map,List.length_replicate];omega
 ·exact absurd (List.mem_of_getElem? h) yZ
 ·obtain ⟨y,hy,rfl⟩:=zkt hx
  obtain ⟨v,hv,r⟩:=rv.get hy
  refine ⟨v,?_,Rep.sub hO r⟩
  unfold L2.start
  have hi:i < vs.length:=(List.getElem?_eq_some_iff.mp hv).1
  rw [List.getElem?_append_left (by simpa using hi),List.getElem?_map,hv];rfl
theorem yc {P:Program} {w:World} {K:PySem.W.Frag} {mg:Str→Option Value} {base:Heap} {x qual:Str} {st:Stmt} {f:Addr} {fd:FuncData} {N ps:List Str} {k:Nat} {b:D3} (Fn:Fun K x qual st f fd) (S:FnScope N ps (zw st))
  (hb: ∀(cdv:Value) (A:Around) (outer:List Env) (s:Shared) (H:Hp) (E:XK),Room k (A.deeper (envOfC qual (zw st) s.heap.objs.size f cdv))→
   z8 (zU (XT P w) P w K mg base N qual (zw st) f cdv A outer s H E) (yX st) (zq κ E b)):FnOk P w K mg base (XT P w) (k+1) f fd ps (zk κ ps.length (fun3 ps.length N.length b)):=by
 refine Fn.okX S (fun vs H Q E h=>?_) fun cdv A outer s H vs Q E hr h=>?_
 ·obtain ⟨_,_,_,_,h,_⟩:=h;exact h
 ·obtain ⟨O,β,vs3,h3,hl,rh,rv,o⟩:=h
  have hpl:ps.length≤N.length:=by have:=congrArg List.length S.pre;rw [List.length_take] at this;omega
  have rel:=zhi (N:=N) rh rv (by omega)
  refine ⟨zq κ E b,hb cdv A outer s H E hr,_,rel,rfl,?_⟩
  unfold fun3 at o
  rw [if_pos (by rw [rv.length];exact hl)] at o
  generalize hF:(⟨O,[],β,List.replicate N.length none,start3 N.length vs3,h3⟩:Fr)=F0 at rel
  have e0:F0.s=start3 N.length vs3∧F0.h=h3∧F0.β=β∧F0.Oi=O∧∀a,some a∉F0.l:=by subst hF;exact ⟨rfl,rfl,rfl,rfl,fun a=>yZ⟩
  obtain ⟨es,eh,eb,eo,el⟩:=e0
  rw [es,eh]
  have ext: ∀{F':Fr} {H':Hp},SExt F0 H F' H'→Ext No β H F'.β H':=fun {F' H'} se=>⟨fun a u h n _=>se.ext.keep a u h (by rw [eb];exact n) (el a),by rw [←eb];exact se.ext.len,fun i a hi h=>by
   have:=se.ext.bet i a (by rw [eb];exact hi) h
   rw [eb] at this;exact this,se.ext.there,fun i a hi h=>se.ext.nwb i a (by rw [eb];exact hi) h⟩
  have hO: ∀{F':Fr} {H':Hp},SExt F0 H F' H'→∀a,O a→F'.O a:=fun {F' H'} se a ha=> .inr (.inr (by rw [se.oi,eo];exact ha))
  cases q:b (start3 N.length vs3) h3 with
  | nx s1 h1=>
   rw [q] at o
   exact fun F' σ' H' se _ h' r'=>o F'.β .non H' (ext se) ⟨by rw [←h'];exact r'.heap.sub (hO se),.non⟩
  | rt r h1=>
   rw [q] at o
   intro F' σ' v H' se h' p
   refine o F'.β v H' (ext se) ?_
   cases r with
   | v x=>exact ⟨by rw [←h'];exact p.1.heap.sub (hO se),Rep.sub (hO se) p.2⟩
   | m c=>
    obtain ⟨p,h1,h2,h3',h4⟩:=p
    have hs: ∀a,a=p∨O a→(F'.with p).O a:=fun a ha=>ha.elim (fun z=> .inl (by rw [z];exact List.mem_cons_self)) fun z=>Fr.O_with (hO se a z)
    refine ⟨p,h1,by rw [←h'];exact h2.heap.sub hs,h3'.sub hs,h4.elim (fun z=>absurd z (el p)) id,fun z=>h2.apart (hO se p z)⟩
  | bk s1 h1=>rw [q] at o;exact (show False from o).elim
  | ct s1 h1=>rw [q] at o;exact (show False from o).elim
  | no=>rw [q] at o;exact o
  | ex x h1=>
   rw [q] at o
   intro F' H' se r'
   have z:=o F'.β H' (ext se) (by rw [se.oi,eo] at r';exact r')
   rw [se.oi,eo];exact z
theorem Rel.nextNew {β':List (Option Addr)} {h':H3} (r:Rel κ F σ H) (e:Ext No F.β H β' H') (rh:RelH κ (fun a=>a=p∨F.O a) β' h' H') (hp:H p=none):Rel κ ((F.to β' h').with p) σ H':=by
 have n2: ¬F.O p:=(r.heap.off_new hp).2
 have ho: ∀a,((F.to β' h').with p).O a→a=p∨F.O a:=fun a ha=>by
  rcases ha with z | z
  ·rcases List.mem_cons.mp z with z | z
   ·exact .inl z
   ·exact .inr (.inl z)
  ·exact .inr (.inr z)
 have hO: ∀a u,H a=some u→¬F.O a→¬((F.to β' h').with p).O a:=fun a u ha n z=>(ho a z).elim (fun w=>by subst w;rw [hp] at ha;cases ha) n
 refine ⟨rh.sub ho,r.slen,r.llen,r.linj,fun a ha z=>?_,r.lo,fun a ha z=>?_,List.nodup_cons.mpr ⟨fun z=>n2 (.inl z),r.tn⟩,fun i x q=>?_⟩
 ·rcases List.mem_cons.mp z with z | z
  ·subst z;exact n2 (.inr (.inl ha))
  ·exact r.lt a ha z
 ·rcases List.mem_cons.mp ha with h | h
  ·subst h;exact n2 (.inr (.inr z))
  ·exact r.to a h z
 ·obtain ⟨v,h1,h2⟩:=r.slot i x q
  refine ⟨v,h1,?_⟩
  cases x with
  | v x=>exact Rep.ext e (fun _ z=>z.elim) hO h2
  | m c=>
   obtain ⟨a,a1,a2,a3⟩:=h2
   have ha:F.O a:= .inr (.inl (List.mem_of_getElem? a1))
   exact ⟨a,a1,a2,a3.ext e (fun _ z=>z.elim) hO fun u hu=>(e.keep a u hu (r.heap.off a ha) fun z=>z).1⟩
theorem FOut.of {r:Res Vl} (rel:Rel κ F σ H) (o:Out κ E (kE κ) F σ H Q r):FOut κ E F.O F.β H Q r:=by
 cases r with
 | no=>exact o
 | ex x h'=>exact fun β' H' e r'=>(o β' H' e (r'.sub fun a ha=> .inr (.inr ha))).sub fun a ha=> .inr (.inr ha)
 | ok r h'=>
  intro β' v H' e q
  refine o β' v H' e ?_
  cases r with
  | v x=>exact ⟨rel.next e q.1,q.2⟩
  | m c=>
   obtain ⟨p,h1,h2,h3,h4,h5⟩:=q
   have ho: ∀a,((F.to β' h').with p).O a→a=p∨F.O a:=fun a ha=>by
    rcases ha with z | z
    ·rcases List.mem_cons.mp z with z | z
     ·exact .inl z
     ·exact .inr (.inl z)
    ·exact .inr (.inr z)
   exact ⟨p,h1,rel.nextNew e h2 h4,h3.sub ho,h4⟩
def eCall (f:F3) (a:A3):E3:=fun s h=>(a s h).bind fun fs h1=>match vals3 fs with
 | some vs=>f vs h1
 | none=> .no
def zp (f:F3) (k:Nat):Prop:=∀vs h,vs.length≠k→f vs h= .no
theorem zC {k n:Nat} {b:D3}:zp (fun3 k n b) k:=fun vs h e=>if_neg e
theorem zrq {f:F3} {t:A3} {k:Nat} (hf:zp f k) (h:zf κ E (eCall f t) σ H Q):zns (zk κ k f) [] E (zy κ E t) σ H Q:=by
 obtain ⟨F,rel,o⟩:=h
 refine (zQ (K:=kA κ) zF rel o).mono fun vs H1 ⟨β1,h1,fs,e1,⟨r1,rf1⟩,o1⟩=>?_
 cases q:vals3 fs with
 | none=>simp only [q] at o1;exact o1.elim
 | some xs=>
  simp only [q] at o1
  have hr:=zbr rf1 q
  rw [List.append_nil]
  refine ⟨F.O,β1,xs,h1,?_,r1.heap,hr,FOut.of r1 o1⟩
  refine Classical.byContradiction fun n=>?_
  rw [hf xs h1 (by rw [hr.length];exact n)] at o1
  exact o1
theorem zS {x:Str} {es:List Expr} {f:F3} {t:A3} {k:Nat} {fa:Addr} {fd:FuncData} {ps:List Str} {n:Nat} (hf:zp f n) (Fk:FnOk X.prog X.w X.K X.mg X.base (XT X.prog X.w) k fa fd ps (zk κ n f)) (hr:Room k X.A) (hg:Gl X x) (hm:X.mg x=some (.ref fa)) (hk:PySem.W.keepIn X.K (.ref fa)=true) (hb:Binds X.K fd ps []) (hx:yO (XT X.prog X.w) X E)
 (ha:PA X (e::es) (zy κ E t)) (hdb:(x==("__debug__" :Str))=false:=by decide) (he:starEach (e::es) X.env=(false,eval e X.env)::starEach es X.env:=by rfl) (hpl:(backTo pos (starEach es X.env)).any (·.1)=false:=by rfl):
 PE X (.Call (.Name x np) (e::es) [] pos) (zf κ E (eCall f t)):=zZ (zm8 Fk hr hg hm hk hb .nil hx ha hdb he hpl) fun _ _ _ h=>zrq hf h
theorem zu3:yO (XT X.prog X.w) X E0:=fun pins σ H s e s' I h=>by
 obtain ⟨_,_,_,_,_,_,_,_,_,_,_,_,_,_,_,_,q⟩:=h
 exact q.elim
end
section
variable {X:Cx} {κ:Kx} {E:XK} {F:Fr} {σ:L2.St} {H H':Hp} {Q:VK} {p:Addr} {pos:Pos} {i:Nat}
def oI (g:Int→Int→Option V3):F2:=fun _ _ x y=>match x,y with
 | .x (.int i),.x (.int j)=>(g i j).map .v
 | _,_=>none
theorem zl1 {g:Int→Int→Option V3} {s:S3} {h:H3} {x y:Rf} {z:Vl} (e:oI g s h x y=some z): ∃i j w,x= .x (.int i)∧y= .x (.int j)∧g i j=some w∧z= .v w:=by
 unfold oI at e
 split at e
 ·rename_i i j
  cases q:g i j with
  | none=>rw [q] at e;cases e
  | some w=>rw [q] at e;cases e;exact ⟨i,j,w,rfl,rfl,q,rfl⟩
 ·cases e
theorem zft {gv:Int→Int→V} {g:Int→Int→Option V3} (hg: ∀i j z,g i j=some z→∀β O H,Rep κ β O H z (gv i j)):OpSim κ (yE gv) (oI g):=fun F σ H x y z v w Q rel rx ry e k=>by
 obtain ⟨i,j,u,rfl,rfl,q,rfl⟩:=zl1 e
 cases (show Rep κ F.β F.O H (.int i) v from rx)
 cases (show Rep κ F.β F.O H (.int j) w from ry)
 exact ⟨i,j,rfl,rfl,k _ H Ext.refl ⟨rel,hg i j u q _ _ _⟩⟩
theorem zjd {C:Int→Int→Prop} {gv:Int→Int→V} {g:Int→Int→Option V3} (hg: ∀i j z,g i j=some z→C i j∧∀β O H,Rep κ β O H z (gv i j)):OpSim κ (rI C gv) (oI g):=fun F σ H x y z v w Q rel rx ry e k=>by
 obtain ⟨i,j,u,rfl,rfl,q,rfl⟩:=zl1 e
 cases (show Rep κ F.β F.O H (.int i) v from rx)
 cases (show Rep κ F.β F.O H (.int j) w from ry)
 exact ⟨i,j,rfl,rfl,(hg i j u q).1,k _ H Ext.refl ⟨rel,(hg i j u q).2 _ _ _⟩⟩
instance {i j:Int}:Decidable (CMul i j):=inferInstanceAs (Decidable (_∨_))
instance {i j:Int}:Decidable (CDiv i j):=inferInstanceAs (Decidable (_∧_))
instance {i j:Int}:Decidable (CPow i j):=inferInstanceAs (Decidable (_∧_))
def zhg:F2:=oI fun i j=>some (.int (i+j))
def oSub:F2:=oI fun i j=>some (.int (i - j))
def zph:F2:=oI fun i j=>if CMul i j then some (.int (i*j)) else none
def zN:F2:=oI fun i j=>if CDiv i j then some (.int (i / j)) else none
def zu:F2:=oI fun i j=>if 0 < j then some (.int (i % j)) else none
def oPow:F2:=oI fun i j=>if CPow i j then some (.int (i ^ j.toNat)) else none
def oShr:F2:=oI fun i j=>if 0≤j then some (.int (i / 2 ^ j.toNat)) else none
def zu4:F2:=oI fun i j=>some (.int (Builtin.bitAnd i j))
def oLt:F2:=oI fun i j=>some (.bl (decide (i < j)))
def oLe:F2:=oI fun i j=>some (.bl (decide (i≤j)))
def oGt:F2:=oI fun i j=>some (.bl (decide (j < i)))
def oGe:F2:=oI fun i j=>some (.bl (decide (j≤i)))
theorem sim_addI:OpSim κ (yE fun i j=> .int (i+j)) zhg:=zft fun i j z e=>by cases e;exact fun _ _ _=> .int _
theorem ziq:OpSim κ (yE fun i j=> .int (i - j)) oSub:=zft fun i j z e=>by cases e;exact fun _ _ _=> .int _
theorem zpw:OpSim κ (yE fun i j=> .bl (decide (i < j))) oLt:=zft fun i j z e=>by cases e;exact fun _ _ _=> .bl _
theorem zpi:OpSim κ (yE fun i j=> .bl (decide (i≤j))) oLe:=zft fun i j z e=>by cases e;exact fun _ _ _=> .bl _
theorem zpp:OpSim κ (yE fun i j=> .bl (decide (j < i))) oGt:=zft fun i j z e=>by cases e;exact fun _ _ _=> .bl _
theorem qd {c:Prop} [Decidable c] {α:Type} {x z:α} (e:(if c then some x else none)=some z):c∧x=z:=by
 by_cases h:c
 ·rw [if_pos h] at e;exact ⟨h,Option.some.inj e⟩
 ·rw [if_neg h] at e;cases e
theorem sim_mulI:OpSim κ (rI CMul fun i j=> .int (i*j)) zph:=zjd fun i j z e=>by obtain ⟨h,rfl⟩:=qd e;exact ⟨h,fun _ _ _=> .int _⟩
theorem zd3:OpSim κ (rI CDiv fun i j=> .int (i / j)) zN:=zjd fun i j z e=>by obtain ⟨h,rfl⟩:=qd e;exact ⟨h,fun _ _ _=> .int _⟩
theorem yK:OpSim κ (rI (fun _ j=>0 < j) fun i j=> .int (i % j)) zu:=zjd fun i j z e=>by obtain ⟨h,rfl⟩:=qd e;exact ⟨h,fun _ _ _=> .int _⟩
theorem zlw:OpSim κ (rI CPow fun i j=> .int (i ^ j.toNat)) oPow:=zjd fun i j z e=>by obtain ⟨h,rfl⟩:=qd e;exact ⟨h,fun _ _ _=> .int _⟩
def yB (f g:F2):F2:=fun s h x y=>match f s h x y with
 | some z=>some z
 | none=>g s h x y
theorem OpSim.or {r r':R2} {f g:F2} (hf:OpSim κ r f) (hg:OpSim κ r' g):OpSim κ (fun x y H Q=>r x y H Q∨r' x y H Q) (yB f g):=fun F σ H x y z v w Q rel rx ry e k=>by
 unfold yB at e
 cases q:f F.s F.h x y with
 | some u=>rw [q] at e;cases e;exact .inl (hf F σ H x y _ v w Q rel rx ry q k)
 | none=>rw [q] at e;exact .inr (hg F σ H x y z v w Q rel rx ry e k)
def zml:F2:=fun _ _ x y=>match x,y with
 | .x (.str i),.x (.str j)=>if i.length+j.length≤sizeLine then some (.v (.str (i++j))) else none
 | _,_=>none
theorem sim_addS:OpSim κ (fun x y H Q=> ∃i j,x= .str i∧y= .str j∧i.length+j.length≤sizeLine∧Q (.str (i++j)) H) zml:=fun F σ H x y z v w Q rel rx ry e k=>by
 unfold zml at e
 split at e
 ·rename_i i j
  obtain ⟨h,rfl⟩:=qd e
  cases (show Rep κ F.β F.O H (.str i) v from rx)
  cases (show Rep κ F.β F.O H (.str j) w from ry)
  exact ⟨i,j,rfl,rfl,h,k _ H Ext.refl ⟨rel,.str _⟩⟩
 ·cases e
def rdm (s:S3) (h:H3):Rf→Option (List V3)
 | .x (.scr _)=>none
 | f=>rdl s h f
theorem ze1 {f:Rf} {v:V} {xs:List V3} (rel:Rel κ F σ H) (r:RfR κ F H f v) (e:rdm F.s F.h f=some xs): ∃a ys,v= .ref a∧H a=some (.lst ys)∧Reps κ F.β F.O H xs ys:=by
 cases f with
 | s i=>
  have e:rdl F.s F.h (.s i)=some xs:=e
  obtain ⟨a,c,h1,h2,h3,h4⟩:=r
  simp only [rdl,h3] at e
  cases c <;> simp at e
  subst e
  obtain ⟨ys,h5,h6⟩:=h4
  exact ⟨a,ys,h2,h5,h6⟩
 | x y=>
  cases y <;> simp [rdm,rdl] at e
  case lst zs=>
   subst e
   cases r with
   | lst h1 h2 h3 h4=>exact ⟨_,_,rfl,h1,h4⟩
  case loc n=>
   cases r with
   | loc h1 h2=>
    cases q:F.h[n]? with
    | none=>rw [q] at e;cases e
    | some c=>
     rw [q] at e
     cases c <;> simp at e
     subst e
     rcases rel.heap.cell n _ q with z | ⟨a,ha,ys,h5,h6⟩
     ·cases z
     ·exact ⟨a,ys,h2 a ha,h5,h6⟩
def oCat:F2:=fun s h x y=>match rdm s h x,rdm s h y with
 | some xs,some ys=>if xs.length+ys.length≤sizeLine then some (.m (.lst (xs++ys))) else none
 | _,_=>none
theorem zq6:OpSim κ rCat oCat:=fun F σ H x y z v w Q rel rx ry e k=>by
 unfold oCat at e
 cases q1:rdm F.s F.h x with
 | none=>rw [q1] at e;cases e
 | some xs=>
  cases q2:rdm F.s F.h y with
  | none=>rw [q1,q2] at e;cases e
  | some ys=>
   rw [q1,q2] at e
   obtain ⟨h,rfl⟩:=qd e
   obtain ⟨a,us,rfl,ha,ra⟩:=ze1 rel rx q1
   obtain ⟨b,ws,rfl,hb,rb⟩:=ze1 rel ry q2
   exact ⟨a,b,us,ws,rfl,rfl,ha,hb,by rw [←ra.length,←rb.length];exact h,fun p hp=>k _ _ (yv hp) (Post.lst rel hp (ra.append rb))⟩
def zr:F2:=yB zhg (yB zml oCat)
theorem yz:OpR X (binaryOp .Add) (fun x y H Q=>(yE fun i j=> .int (i+j)) x y H Q∨((fun x y H Q=> ∃i j,x= .str i∧y= .str j∧i.length+j.length≤sizeLine∧Q (.str (i++j)) H) x y H Q∨rCat x y H Q)):=op_add.or (op_add_str.or zsa)
theorem yy:OpSim κ (fun x y H Q=>(yE fun i j=> .int (i+j)) x y H Q∨((fun x y H Q=> ∃i j,x= .str i∧y= .str j∧i.length+j.length≤sizeLine∧Q (.str (i++j)) H) x y H Q∨rCat x y H Q)) zr:=sim_addI.or (sim_addS.or zq6)
def oRep:F2:=fun s h x y=>match rdm s h x,y with
 | some xs,.x (.int k)=>if -(2 ^ 63)≤k∧k < 2 ^ 63∧xs.length*k.toNat≤sizeLine then some (.m (.lst (List.replicate k.toNat xs).flatten)) else none
 | _,_=>none
theorem zqy:OpSim κ rRep oRep:=fun F σ H x y z v w Q rel rx ry e k=>by
 unfold oRep at e
 split at e
 ·rename_i xs n q
  obtain ⟨⟨h1,h2,h3⟩,rfl⟩:=qd e
  obtain ⟨a,us,rfl,ha,ra⟩:=ze1 rel rx q
  cases (show Rep κ F.β F.O H (.int n) w from ry)
  exact ⟨a,n,us,rfl,rfl,ha,h1,h2,by rw [←ra.length];exact h3,fun p hp=>k _ _ (yv hp) (Post.lst rel hp (ra.rep _))⟩
 ·cases e
def oMul:F2:=yB zph oRep
theorem zga:OpR X (binaryOp .Mult) (fun x y H Q=>(rI CMul fun i j=> .int (i*j)) x y H Q∨rRep x y H Q):=op_mul.or zul
theorem zfv:OpSim κ (fun x y H Q=>(rI CMul fun i j=> .int (i*j)) x y H Q∨rRep x y H Q) oMul:=sim_mulI.or zqy
theorem Reps.atI {xs:List V3} {ys:List V} {i:Int} {x:V3} (r:Reps κ F.β F.O H xs ys) (e:atI xs i=some x): ∃y,L2.atI ys i=some y∧Rep κ F.β F.O H x y:=by
 unfold L2.atI at e ⊢
 rw [←r.length]
 cases q:yM xs.length i with
 | none=>rw [q] at e;cases e
 | some j=>
  rw [q] at e
  exact r.get e
def oIxL:F2:=fun s h x y=>match y with
 | .x (.int i)=>match rdl s h x with
  | some xs=>(atI xs i).map .v
  | none=>none
 | _=>none
def oIxT:F2:=fun _ _ x y=>match x,y with
 | .x (.tup xs),.x (.int i)=>(atI xs i).map .v
 | _,_=>none
def oIxS:F2:=fun _ _ x y=>match x,y with
 | .x (.str z),.x (.int i)=>if z.length≤sizeLine then (atI z.cps.toList i).map fun c=> .v (.str ⟨#[c]⟩) else none
 | _,_=>none
theorem sim_ixL:OpSim κ (rIxL κ.K) oIxL:=fun F σ H x y z v w Q rel rx ry e k=>by
 unfold oIxL at e
 split at e
 ·rename_i i
  cases (show Rep κ F.β F.O H (.int i) w from ry)
  cases q:rdl F.s F.h x with
  | none=>rw [q] at e;cases e
  | some xs=>
   rw [q] at e
   cases q2:atI xs i with
   | none=>simp only [q2] at e;cases e
   | some u=>
    simp only [q2] at e;cases e
    obtain ⟨a,us,rfl,sq,ra⟩:=ze4 rel rx q
    obtain ⟨y,hy,ry'⟩:=Reps.atI ra q2
    exact ⟨a,us,i,y,rfl,rfl,sq,hy,k _ H Ext.refl ⟨rel,ry'⟩⟩
 ·cases e
theorem sim_ixT:OpSim κ (rIxT κ.K) oIxT:=fun F σ H x y z v w Q rel rx ry e k=>by
 unfold oIxT at e
 split at e
 ·rename_i xs i
  cases (show Rep κ F.β F.O H (.int i) w from ry)
  cases q2:atI xs i with
  | none=>rw [q2] at e;cases e
  | some u=>
   rw [q2] at e;cases e
   cases (show Rep κ F.β F.O H (.tup xs) v from rx) with
   | tup h1 h2 h3 h4=>
    obtain ⟨y,hy,ry'⟩:=Reps.atI h4 q2
    exact ⟨_,_,i,y,rfl,rfl,.of h1,hy,k _ H Ext.refl ⟨rel,ry'⟩⟩
 ·cases e
theorem zqh:OpSim κ rIxS oIxS:=fun F σ H x y z v w Q rel rx ry e k=>by
 unfold oIxS at e
 split at e
 ·rename_i zz i
  cases (show Rep κ F.β F.O H (.int i) w from ry)
  cases (show Rep κ F.β F.O H (.str zz) v from rx)
  obtain ⟨h,e⟩:zz.length≤sizeLine∧((atI zz.cps.toList i).map fun c=>Vl.v (.str ⟨#[c]⟩))=some z:=by
   by_cases h:zz.length≤sizeLine
   ·rw [if_pos h] at e;exact ⟨h,e⟩
   ·rw [if_neg h] at e;cases e
  cases q2:atI zz.cps.toList i with
  | none=>rw [q2] at e;cases e
  | some c=>
   rw [q2] at e;cases e
   exact ⟨zz,i,c,rfl,rfl,h,q2,k _ H Ext.refl ⟨rel,.str _⟩⟩
 ·cases e
def zL:F2:=yB oIxT (yB oIxL oIxS)
theorem yf (hK:X.K=κ.K):IxR X (fun x y H Q=>rIxT κ.K x y H Q∨(fun x y H Q=>rIxL κ.K x y H Q∨rIxS x y H Q) x y H Q):=by
 rw [←hK];exact ix_tup.or (ix_list.or zss)
theorem yg:OpSim κ (fun x y H Q=>rIxT κ.K x y H Q∨(fun x y H Q=>rIxL κ.K x y H Q∨rIxS x y H Q) x y H Q) zL:=sim_ixT.or (sim_ixL.or zqh)
def oIsN (neg:Bool):F2:=fun _ _ x y=>match x,y with
 | .x .non,.x .non=>some (.v (.bl (!neg)))
 | .x (.loc _),_=>none
 | .x _,.x .non=>some (.v (.bl neg))
 | .s _,.x .non=>some (.v (.bl neg))
 | _,_=>none
theorem zuk {x:V3} {v:V} (r:Rep κ F.β F.O H x v) (h:x≠ .non) (h2: ∀n,x≠ .loc n):v≠ .non:=by
 cases r <;> first | (intro z;cases z;done) | (exact absurd rfl h) | (exact absurd rfl (h2 _))
theorem zln {neg:Bool} {s:S3} {h:H3} {x y:Rf} {z:Vl} {v w:V} (e:oIsN neg s h x y=some z) (rx:RfR κ F H x v) (ry:RfR κ F H y w):w= .non∧z= .v (.bl (if neg then !decide (v= .non) else decide (v= .non))):=by
 unfold oIsN at e
 split at e
 ·cases e
  cases (show Rep κ F.β F.O H .non v from rx)
  cases (show Rep κ F.β F.O H .non w from ry)
  exact ⟨rfl,by cases neg <;> simp⟩
 ·cases e
 ·rename_i x h1 h2
  cases e
  cases (show Rep κ F.β F.O H .non w from ry)
  have hv:v≠ .non:=zuk (show Rep κ F.β F.O H x v from rx) (fun z=>by subst z;exact h1 rfl) (fun n z=>by subst z;exact h2 n rfl)
  exact ⟨rfl,by cases neg <;> simp [hv]⟩
 ·cases e
  cases (show Rep κ F.β F.O H .non w from ry)
  obtain ⟨a,c,_,h2,_⟩:=rx
  have hv:v≠ .non:=by rw [h2];intro z;cases z
  exact ⟨rfl,by cases neg <;> simp [hv]⟩
 ·cases e
theorem zii:OpSim κ (fun x y H Q=>y= .non∧Q (.bl (decide (x= .non))) H) (oIsN false):=fun F σ H x y z v w Q rel rx ry e k=>by
 obtain ⟨h1,rfl⟩:=zln e rx ry
 exact ⟨h1,k _ H Ext.refl ⟨rel,.bl _⟩⟩
end
inductive K3 where
 | f (a:V) | l (xs:List V3) | t (xs:List V3) | o
def yC (h:H3):V3→K3
 | .non=> .f .non
 | .bl b=> .f (.bl b)
 | .int i=> .f (.int i)
 | .str x=> .f (.str x)
 | .lst xs=> .l xs
 | .tup xs=> .t xs
 | .loc n=>match h[n]? with
  | some (.lst xs)=> .l xs
  | _=> .o
 | _=> .o
def yt (f:V3→V3→Option Bool):List V3→List V3→Option Bool
 | x::xs,y::ys=>match f x y,yt f xs ys with
  | some a,some b=>some (a && b)
  | _,_=>none
 | _,_=>some true
def emD:V3→Bool
 | .dT []=>true
 | _=>false
def yb (h:H3):Nat→V3→V3→Option Bool
 | 0,x,y=>match yC h x,yC h y with
  | .f a,.f b=>some (eqV a b)
  | _,_=>none
 | n+1,x,y=>match yC h x,yC h y with
  | .f a,.f b=>some (eqV a b)
  | .l xs,.l ys=>if xs.length=ys.length then yt (yb h n) xs ys else some false
  | .t xs,.t ys=>(yt (yb h n) xs ys).map (· && xs.length==ys.length)
  | .o,.o=>if emD x=true∧emD y=true then some true else none
  | .o,_=>none
  | _,.o=>none
  | _,_=>some false
section
variable {X:Cx} {κ:Kx} {E:XK} {F:Fr} {σ:L2.St} {H H':Hp} {Q:VK} {p:Addr} {pos:Pos} {i:Nat}
theorem zgq {f:V3→V3→Option Bool}: ∀{xs ys:List V3} {b:Bool},yt f xs ys=some b→(∀(j:Nat) (x y:V3),xs[j]? =some x→ys[j]? =some y→∃c,f x y=some c)∧b=(List.range (min xs.length ys.length)).all fun j=>((xs[j]?).bind fun x=>(ys[j]?).bind fun y=>f x y).getD false
 | [],ys,b,e=>by
  unfold yt at e;cases e
  exact ⟨fun j x y h=>by simp at h,by simp⟩
 | x::xs,[],b,e=>by
  unfold yt at e;cases e
  exact ⟨fun j x y _ h=>by simp at h,by simp⟩
 | x::xs,y::ys,b,e=>by
  unfold yt at e
  cases q1:f x y with
  | none=>simp only [q1] at e;cases e
  | some a=>
   cases q2:yt f xs ys with
   | none=>simp only [q1,q2] at e;cases e
   | some c=>
    simp only [q1,q2] at e;cases e
    obtain ⟨h1,h2⟩:=zgq q2
    refine ⟨fun j x' y' hx hy=>?_,?_⟩
    ·cases j with
     | zero=>simp at hx hy;subst hx;subst hy;exact ⟨a,q1⟩
     | succ j=>exact h1 j x' y' (by simpa using hx) (by simpa using hy)
    ·rw [List.length_cons,List.length_cons,Nat.add_min_add_right,List.range_succ_eq_map,List.all_cons,List.all_map]
     simp only [List.getElem?_cons_zero,Option.bind_some,q1,Option.getD_some,h2,Function.comp_def,List.getElem?_cons_succ]
theorem zci {x:V3} {v:V} (rel:RelH κ F.O F.β F.h H) (r:Rep κ F.β F.O H x v):match yC F.h x with
  | .f a=>v=a∧zi1 a=true
  | .l xs=> ∃a ys,v= .ref a∧H a=some (.lst ys)∧Reps κ F.β F.O H xs ys
  | .t xs=> ∃a ys,v= .ref a∧H a=some (.tup ys)∧Reps κ F.β F.O H xs ys
  | .o=>True:=by
 cases r with
 | lst h1 h2 h3 h4=>exact ⟨_,_,rfl,h1,h4⟩
 | tup h1 h2 h3 h4=>exact ⟨_,_,rfl,h1,h4⟩
 | @loc n v h1 h2=>
  simp only [yC]
  cases q:F.h[n]? with
  | none=>trivial
  | some c=>
   cases c with
   | lst xs=>
    rcases rel.cell n _ q with z | ⟨a,ha,ys,h5,h6⟩
    ·cases z
    ·exact ⟨a,ys,h2 a ha,h5,h6⟩
   | _=>trivial
 | _=>first | exact ⟨rfl,rfl⟩ | trivial
theorem Vals.at {ys:List V} {us:List Value} {j:Nat} {y:V} (r:Vals ys us) (h:j < us.toArray.size) (e:ys[j]? =some y):RelV y us.toArray[j]:=by
 obtain ⟨u,h1,h2⟩:=r.get e
 have:=(List.getElem?_eq_some_iff.mp h1).2
 have e1:us.toArray[j]=u:=by simpa using this
 rw [e1];exact h2
theorem zja {n:Nat} (ih: ∀{x y:V3} {v:V} {b:Bool},Rep κ F.β F.O H x v→Rep κ F.β F.O H y v→yb F.h n x y=some b→b=true): ∀{xs ys:List V3} {vs:List V} {b:Bool},Reps κ F.β F.O H xs vs→Reps κ F.β F.O H ys vs→yt (yb F.h n) xs ys=some b→b=true:=by
 intro xs
 induction xs with
 | nil=>intro ys vs b _ _ e;unfold yt at e;cases e;rfl
 | cons x xs ihx=>
  intro ys vs b r1 r2 e
  cases r1 with
  | cons a1 t1=>
   cases r2 with
   | @cons y _ ys _ a2 t2=>
    unfold yt at e
    cases q1:yb F.h n x y with
    | none=>simp only [q1] at e;cases e
    | some a=>
     cases q2:yt (yb F.h n) xs ys with
     | none=>simp only [q1,q2] at e;cases e
     | some c=>
      simp only [q1,q2] at e;cases e
      rw [ih a1 a2 q1,ihx t1 t2 q2];rfl
theorem zj7 {a:V} (h:zi1 a=true):eqV a a=true:=by cases a <;> simp [zi1] at h <;> simp [eqV]
theorem zgw (rel:RelH κ F.O F.β F.h H): ∀(n:Nat) {x y:V3} {v:V} {b:Bool},Rep κ F.β F.O H x v→Rep κ F.β F.O H y v→yb F.h n x y=some b→b=true
 | 0,x,y,v,b,rx,ry,e=>by
  have kx:=zci rel rx
  have ky:=zci rel ry
  unfold yb at e
  cases h1:yC F.h x <;> cases h2:yC F.h y <;> simp only [h1,h2] at e kx ky <;> try cases e
  obtain ⟨e1,e2⟩:=kx
  obtain ⟨e3,_⟩:=ky
  rw [←e1,←e3];rw [←e1] at e2
  exact zj7 e2
 | n+1,x,y,v,b,rx,ry,e=>by
  have kx:=zci rel rx
  have ky:=zci rel ry
  unfold yb at e
  cases h1:yC F.h x <;> cases h2:yC F.h y <;> simp only [h1,h2] at e kx ky <;> try cases e
  case o.o=>split at e <;> cases e;rfl
  case f.f=>
   obtain ⟨e1,e2⟩:=kx
   obtain ⟨e3,_⟩:=ky
   rw [←e1,←e3];rw [←e1] at e2
   exact zj7 e2
  case f.l=>obtain ⟨e1,e2⟩:=kx;obtain ⟨a,ys,e3,_⟩:=ky;rw [←e1,e3] at e2;cases e2
  case f.t=>obtain ⟨e1,e2⟩:=kx;obtain ⟨a,ys,e3,_⟩:=ky;rw [←e1,e3] at e2;cases e2
  case l.f=>obtain ⟨e1,e2⟩:=ky;obtain ⟨a,ys,e3,_⟩:=kx;rw [←e1,e3] at e2;cases e2
  case t.f=>obtain ⟨e1,e2⟩:=ky;obtain ⟨a,ys,e3,_⟩:=kx;rw [←e1,e3] at e2;cases e2
  case l.t=>obtain ⟨a,ys,e3,h5,_⟩:=kx;obtain ⟨a',ys',e4,h6,_⟩:=ky;rw [e3] at e4;cases e4;rw [h5] at h6;cases h6
  case t.l=>obtain ⟨a,ys,e3,h5,_⟩:=kx;obtain ⟨a',ys',e4,h6,_⟩:=ky;rw [e3] at e4;cases e4;rw [h5] at h6;cases h6
  case l.l xs ys=>
   obtain ⟨a,us,e3,h5,r5⟩:=kx
   obtain ⟨a',us',e4,h6,r6⟩:=ky
   rw [e3] at e4;cases e4
   rw [h5] at h6;cases h6
   rw [if_pos (by rw [r5.length,r6.length])] at e
   exact zja (fun a b c=>zgw rel n a b c) r5 r6 e
  case t.t xs ys=>
   obtain ⟨a,us,e3,h5,r5⟩:=kx
   obtain ⟨a',us',e4,h6,r6⟩:=ky
   rw [e3] at e4;cases e4
   rw [h5] at h6;cases h6
   cases q:yt (yb F.h n) xs ys with
   | none=>rw [q] at e;cases e
   | some c=>
    rw [q] at e;cases e
    rw [zja (fun a b c=>zgw rel n a b c) r5 r6 q,r5.length,r6.length]
    simp
theorem zm3 {s:Shared} {a c:V} {v u:Value} {A:Around} (r1:RelV a v) (r2:RelV c u) (f1:zi1 a=true) (f2:zi1 c=true):SeqAt.RcAt A s v u (eqV a c)∧SeqAt.RcNeAt A s v u (!eqV a c):=by
 cases a with
 | non=>
  cases r1
  cases c with
  | non=>cases r2;exact ⟨.none_none,.none_none⟩
  | bl c=>cases r2;exact ⟨.none_bool _,.none_bool _⟩
  | int c=>obtain ⟨tr2,rfl⟩:=r2;exact ⟨.none_int _ _,.none_int _ _⟩
  | str c=>obtain ⟨tr2,rfl⟩:=r2;exact ⟨.none_str _ _,.none_str _ _⟩
  | _=>exact absurd (show false=true from f2) Bool.false_ne_true
 | bl a=>
  cases r1
  cases c with
  | non=>cases r2;exact ⟨.bool_none _,.bool_none _⟩
  | bl c=>cases r2;exact ⟨.bool_bool _ _,.bool_bool _ _⟩
  | int c=>obtain ⟨tr2,rfl⟩:=r2;exact ⟨.bool_int _ _ _,.bool_int _ _ _⟩
  | str c=>obtain ⟨tr2,rfl⟩:=r2;exact ⟨.bool_str _ _ _,.bool_str _ _ _⟩
  | _=>exact absurd (show false=true from f2) Bool.false_ne_true
 | int a=>
  obtain ⟨tr1,rfl⟩:=r1
  cases c with
  | non=>cases r2;exact ⟨.int_none _ _,.int_none _ _⟩
  | bl c=>cases r2;exact ⟨.int_bool _ _ _,.int_bool _ _ _⟩
  | int c=>obtain ⟨tr2,rfl⟩:=r2;exact ⟨.int_int _ _ _ _,.int_int _ _ _ _⟩
  | str c=>obtain ⟨tr2,rfl⟩:=r2;exact ⟨.int_str _ _ _ _,.int_str _ _ _ _⟩
  | _=>exact absurd (show false=true from f2) Bool.false_ne_true
 | str a=>
  obtain ⟨tr1,rfl⟩:=r1
  cases c with
  | non=>cases r2;exact ⟨.str_none _ _,.str_none _ _⟩
  | bl c=>cases r2;exact ⟨.str_bool _ _ _,.str_bool _ _ _⟩
  | int c=>obtain ⟨tr2,rfl⟩:=r2;exact ⟨.str_int _ _ _ _,.str_int _ _ _ _⟩
  | str c=>obtain ⟨tr2,rfl⟩:=r2;exact ⟨.str_str _ _ _ _,.str_str _ _ _ _⟩
  | _=>exact absurd (show false=true from f2) Bool.false_ne_true
 | _=>exact absurd (show false=true from f1) Bool.false_ne_true
theorem zmw {x:V3} {v:V} (r:Rep κ F.β F.O H x v) (h:emD x=true): ∃a,v= .ref a∧H a=some (.dT []):=by
 unfold emD at h
 split at h
 ·cases r with
  | dT h1 _ _ h4=>cases h4;exact ⟨_,rfl,h1⟩
 ·cases h
theorem zpq {pins:List (Addr×Obj)} {s:Shared} {a:Addr} (I:Inv X pins σ H s) (h:H a=some (.dT [])):(a==sysModules)=false∧∀(prog:Program) (w:World),s.heap.DictOf (zd5 prog w) a []:=by
 obtain ⟨_,h1,xs,hx,o,es,ep,ho,he,hd,hl,_,_⟩:=(show ObjOk X.prog X.w H s.heap a (.dT []) from I.hok a _ h)
 cases hx
 have e0:es= #[]:=by
  apply Array.ext'
  rw [hl];rfl
 subst e0
 exact ⟨h1,fun prog w=>⟨o,#[],ep,ho,he,hd,fun e he=>by simp at he,.nil,List.nodup_nil⟩⟩
def ans (h:H3) (n:Nat) (xs ys:List V3) (j:Nat):Bool:=((xs[j]?).bind fun x=>(ys[j]?).bind fun y=>yb h n x y).getD false
theorem ztl (rel:RelH κ F.O F.β F.h H): ∀(n:Nat) {pins:List (Addr×Obj)} {s:Shared} {x y:V3} {v' u':V} {v u:Value} {b:Bool} {A:Around},Inv X pins σ H s→Rep κ F.β F.O H x v'→Rep κ F.β F.O H y u'→RelV v' v→RelV u' u→yb F.h n x y=some b→A.units+n < cLine→
  (SeqAt.RcAt A s v u b∧SeqAt.RcNeAt A s v u (!b))∧SeqAt.EqAt A s v u b:=by
 intro n
 induction n with
 | zero=>
  intro pins s x y v' u' v u b A I rx ry rv ru e hu
  have kx:=zci rel rx
  have ky:=zci rel ry
  unfold yb at e
  cases h1:yC F.h x <;> cases h2:yC F.h y <;> simp only [h1,h2] at e kx ky <;> try cases e
  obtain ⟨e1,e2⟩:=kx
  obtain ⟨e3,e4⟩:=ky
  subst e1;subst e3
  exact ⟨zm3 rv ru e2 e4,zp0 rv ru e2 e4⟩
 | succ n ih=>
  intro pins s x y v' u' v u b A I rx ry rv ru e hu
  have kx:=zci rel rx
  have ky:=zci rel ry
  have e0:=e
  unfold yb at e
  have items: ∀{xs ys:List V3} {us ws:List V} {vs zs:List Value} {c:Bool},Reps κ F.β F.O H xs us→Reps κ F.β F.O H ys ws→Vals us vs→Vals ws zs→yt (yb F.h n) xs ys=some c→∀j (h1:j < vs.toArray.size) (h2:j < zs.toArray.size),SeqAt.EqAt A.in1 s vs.toArray[j] zs.toArray[j] (ans F.h n xs ys j):=by
   intro xs ys us ws vs zs c r1 r2 v1 v2 q j h1 h2
   have l1:=r1.length;have l2:=r2.length;have l3:=v1.length;have l4:=v2.length
   have h1':j < xs.length:=by rw [l1,l3];simpa using h1
   have h2':j < ys.length:=by rw [l2,l4];simpa using h2
   obtain ⟨y1,hy1,ry1⟩:=r1.get (z4 h1')
   obtain ⟨y2,hy2,ry2⟩:=r2.get (z4 h2')
   obtain ⟨d,hd⟩:=(zgq q).1 j _ _ (z4 h1') (z4 h2')
   have ea:ans F.h n xs ys j=d:=by unfold ans;rw [z4 h1',z4 h2'];simp [hd]
   rw [ea]
   exact (ih I ry1 ry2 (Vals.at v1 h1 hy1) (Vals.at v2 h2 hy2) hd (by show A.units+1+n < cLine;omega)).2
  have wrap: ∀{a a':Addr},v'= .ref a→u'= .ref a'→(SeqAt.RcAt A s v u b∧SeqAt.RcNeAt A s v u (!b))→(SeqAt.RcAt A s v u b∧SeqAt.RcNeAt A s v u (!b))∧SeqAt.EqAt A s v u b:=by
   intro a a' ea ea' h
   refine ⟨h,?_⟩
   subst ea;subst ea'
   cases rv;cases ru
   by_cases z:a=a'
   ·subst z
    rw [zgw rel (n+1) rx ry e0]
    exact SeqAt.EqAt.same _
   ·exact SeqAt.EqAt.of_refs z h.1
  cases h1:yC F.h x <;> cases h2:yC F.h y <;> simp only [h1,h2] at e kx ky <;> try cases e
  case succ.f.f.refl=>
   obtain ⟨e1,e2⟩:=kx
   obtain ⟨e3,e4⟩:=ky
   subst e1;subst e3
   exact ⟨zm3 rv ru e2 e4,zp0 rv ru e2 e4⟩
  case succ.o.o=>
   split at e
   ·rename_i hd
    cases e
    obtain ⟨a,rfl,ha⟩:=zmw rx hd.1
    obtain ⟨a',rfl,ha'⟩:=zmw ry hd.2
    refine wrap rfl rfl ?_
    cases rv;cases ru
    obtain ⟨n1,d1⟩:=zpq I ha
    obtain ⟨n2,d2⟩:=zpq I ha'
    exact ⟨fun prog w E Q hq=>PySem.W.keq_eq (knd:=zd5 prog w) n1 n2 (d1 prog w) (d2 prog w) (by omega) (fun _=> .nil) hq,fun prog w E Q hq=>PySem.W.keq_ne (knd:=zd5 prog w) n1 n2 (d1 prog w) (d2 prog w) (by omega) (fun _=> .nil) hq⟩
   ·cases e
  case succ.l.l xs ys=>
   obtain ⟨a,us,rfl,h5,r5⟩:=kx
   obtain ⟨a',us',rfl,h6,r6⟩:=ky
   refine wrap rfl rfl ?_
   cases rv;cases ru
   obtain ⟨vs,rv,pl,_⟩:=I.list (SqL.of (K:=X.K) h5)
   obtain ⟨zs,rz,pz,_⟩:=I.list (SqL.of (K:=X.K) h6)
   have l1:=r5.length;have l2:=r6.length;have l3:=rv.length;have l4:=rz.length
   by_cases hl:xs.length=ys.length
   ·rw [if_pos hl] at e
    have hsz:vs.toArray.size=zs.toArray.size:=by rw [List.size_toArray,List.size_toArray];omega
    have eb:b=(List.range vs.toArray.size).all (ans F.h n xs ys):=by
     rw [(zgq e).2,←hl,Nat.min_self,List.size_toArray,←l3,←l1];rfl
    rw [eb]
    exact ⟨.lists pl.isList pz.isList hsz (by omega) (items r5 r6 rv rz e),.lists pl.isList pz.isList hsz (by omega) (items r5 r6 rv rz e)⟩
   ·rw [if_neg hl] at e;cases e
    have hsz:(vs.toArray.size !=zs.toArray.size)=true:=by rw [List.size_toArray,List.size_toArray];simp;omega
    exact ⟨.lists_lengths pl.isList pz.isList hsz (by omega),.lists_lengths pl.isList pz.isList hsz (by omega)⟩
  case succ.t.t xs ys=>
   obtain ⟨a,us,rfl,h5,r5⟩:=kx
   obtain ⟨a',us',rfl,h6,r6⟩:=ky
   refine wrap rfl rfl ?_
   cases rv;cases ru
   obtain ⟨vs,rv,pl,_⟩:=I.tuple (SqT.of (K:=X.K) h5)
   obtain ⟨zs,rz,pz,_⟩:=I.tuple (SqT.of (K:=X.K) h6)
   have l1:=r5.length;have l2:=r6.length;have l3:=rv.length;have l4:=rz.length
   cases q:yt (yb F.h n) xs ys with
   | none=>rw [q] at e;cases e
   | some c=>
    rw [q] at e
    have eb:b=((List.range (min vs.toArray.size zs.toArray.size)).all (ans F.h n xs ys) && vs.toArray.size==zs.toArray.size):=by
     cases e
     rw [(zgq q).2,List.size_toArray,List.size_toArray,←l3,←l4,←l1,←l2];rfl
    rw [eb]
    exact ⟨.tuples (show s.heap.IsTuple a vs.toArray from pl) (show s.heap.IsTuple a' zs.toArray from pz) (by omega) (items r5 r6 rv rz q),.tuples (show s.heap.IsTuple a vs.toArray from pl) (show s.heap.IsTuple a' zs.toArray from pz) (by omega) (items r5 r6 rv rz q)⟩
  case succ.l.t.refl xs ys=>
   obtain ⟨a,us,rfl,h5,r5⟩:=kx
   obtain ⟨a',us',rfl,h6,r6⟩:=ky
   refine wrap rfl rfl ?_
   cases rv;cases ru
   obtain ⟨vs,rv,pl,_⟩:=I.list (SqL.of (K:=X.K) h5)
   obtain ⟨zs,rz,pz,_⟩:=I.tuple (SqT.of (K:=X.K) h6)
   exact ⟨.list_tuple pl.isList (show s.heap.IsTuple a' zs.toArray from pz) (by omega),.list_tuple pl.isList (show s.heap.IsTuple a' zs.toArray from pz) (by omega)⟩
  case succ.t.l.refl xs ys=>
   obtain ⟨a,us,rfl,h5,r5⟩:=kx
   obtain ⟨a',us',rfl,h6,r6⟩:=ky
   refine wrap rfl rfl ?_
   cases rv;cases ru
   obtain ⟨vs,rv,pl,_⟩:=I.tuple (SqT.of (K:=X.K) h5)
   obtain ⟨zs,rz,pz,_⟩:=I.list (SqL.of (K:=X.K) h6)
   exact ⟨.tuple_list (show s.heap.IsTuple a vs.toArray from pl) pz.isList (by omega),.tuple_list (show s.heap.IsTuple a vs.toArray from pl) pz.isList (by omega)⟩
  case succ.l.f.refl xs a0=>
   obtain ⟨a,us,rfl,h5,r5⟩:=kx
   obtain ⟨e3,e4⟩:=ky
   subst e3
   cases rv
   obtain ⟨vs,rv,pl,_⟩:=I.list (SqL.of (K:=X.K) h5)
   have hu':A.units < cLine:=by omega
   cases u' with
   | non=>cases ru;exact ⟨⟨.list_none pl.isList hu',.list_none pl.isList hu'⟩,.list_none pl.isList hu'⟩
   | bl b=>cases ru;exact ⟨⟨.list_bool b pl.isList hu',.list_bool b pl.isList hu'⟩,.list_bool b pl.isList hu'⟩
   | int b=>obtain ⟨t,rfl⟩:=ru;exact ⟨⟨.list_int b t pl.isList hu',.list_int b t pl.isList hu'⟩,.list_int b t pl.isList hu'⟩
   | str b=>obtain ⟨t,rfl⟩:=ru;exact ⟨⟨.list_str b t pl.isList hu',.list_str b t pl.isList hu'⟩,.list_str b t pl.isList hu'⟩
   | _=>exact absurd (show false=true from e4) Bool.false_ne_true
  case succ.t.f.refl xs a0=>
   obtain ⟨a,us,rfl,h5,r5⟩:=kx
   obtain ⟨e3,e4⟩:=ky
   subst e3
   cases rv
   obtain ⟨vs,rv,pl,_⟩:=I.tuple (SqT.of (K:=X.K) h5)
   have pl:s.heap.IsTuple a vs.toArray:=pl
   have hu':A.units < cLine:=by omega
   cases u' with
   | non=>cases ru;exact ⟨⟨.tuple_none pl hu',.tuple_none pl hu'⟩,.tuple_none pl hu'⟩
   | bl b=>cases ru;exact ⟨⟨.tuple_bool b pl hu',.tuple_bool b pl hu'⟩,.tuple_bool b pl hu'⟩
   | int b=>obtain ⟨t,rfl⟩:=ru;exact ⟨⟨.tuple_int b t pl hu',.tuple_int b t pl hu'⟩,.tuple_int b t pl hu'⟩
   | str b=>obtain ⟨t,rfl⟩:=ru;exact ⟨⟨.tuple_str b t pl hu',.tuple_str b t pl hu'⟩,.tuple_str b t pl hu'⟩
   | _=>exact absurd (show false=true from e4) Bool.false_ne_true
  case succ.f.l.refl a0 xs=>
   obtain ⟨a,us,rfl,h5,r5⟩:=ky
   obtain ⟨e3,e4⟩:=kx
   subst e3
   cases ru
   obtain ⟨vs,ru,pl,_⟩:=I.list (SqL.of (K:=X.K) h5)
   have hu':A.units < cLine:=by omega
   cases v' with
   | non=>cases rv;exact ⟨⟨.none_list pl.isList hu',.none_list pl.isList hu'⟩,.none_list pl.isList hu'⟩
   | bl b=>cases rv;exact ⟨⟨.bool_list b pl.isList hu',.bool_list b pl.isList hu'⟩,.bool_list b pl.isList hu'⟩
   | int b=>obtain ⟨t,rfl⟩:=rv;exact ⟨⟨.int_list b t pl.isList hu',.int_list b t pl.isList hu'⟩,.int_list b t pl.isList hu'⟩
   | str b=>obtain ⟨t,rfl⟩:=rv;exact ⟨⟨.str_list b t pl.isList hu',.str_list b t pl.isList hu'⟩,.str_list b t pl.isList hu'⟩
   | _=>exact absurd (show false=true from e4) Bool.false_ne_true
  case succ.f.t.refl a0 xs=>
   obtain ⟨a,us,rfl,h5,r5⟩:=ky
   obtain ⟨e3,e4⟩:=kx
   subst e3
   cases ru
   obtain ⟨vs,ru,pl,_⟩:=I.tuple (SqT.of (K:=X.K) h5)
   have pl:s.heap.IsTuple a vs.toArray:=pl
   have hu':A.units < cLine:=by omega
   cases v' with
   | non=>cases rv;exact ⟨⟨.none_tuple pl hu',.none_tuple pl hu'⟩,.none_tuple pl hu'⟩
   | bl b=>cases rv;exact ⟨⟨.bool_tuple b pl hu',.bool_tuple b pl hu'⟩,.bool_tuple b pl hu'⟩
   | int b=>obtain ⟨t,rfl⟩:=rv;exact ⟨⟨.int_tuple b t pl hu',.int_tuple b t pl hu'⟩,.int_tuple b t pl hu'⟩
   | str b=>obtain ⟨t,rfl⟩:=rv;exact ⟨⟨.str_tuple b t pl hu',.str_tuple b t pl hu'⟩,.str_tuple b t pl hu'⟩
   | _=>exact absurd (show false=true from e4) Bool.false_ne_true
def yY (s:S3) (h:H3) (x y:Rf):Option Bool:=match rdm s h x,rdm s h y with
 | some xs,some ys=>if xs.length=ys.length then yt (yb h 8) xs ys else some false
 | _,_=>match x,y with
  | .x a,.x b=>yb h 9 a b
  | _,_=>none
def yh:F2:=fun s h x y=>(yY s h x y).map fun b=> .v (.bl b)
def ym:F2:=fun s h x y=>(yY s h x y).map fun b=> .v (.bl !b)
def rEqT (κ:Kx) (neg:Bool):R2:=fun v w H Q=> ∃F σ x y b,Rel κ F σ H∧RfR κ F H x v∧RfR κ F H y w∧yY F.s F.h x y=some b∧Q (.bl (if neg then !b else b)) H
theorem ztk {pins:List (Addr×Obj)} {s:Shared} {σ':L2.St} {x y:Rf} {v' u':V} {v u:Value} {b:Bool} {A:Around} (I:Inv X pins σ' H s) (rel:Rel κ F σ H) (rx:RfR κ F H x v') (ry:RfR κ F H y u') (rv:RelV v' v) (ru:RelV u' u) (e:yY F.s F.h x y=some b) (hu:A.units+9 < cLine):
  SeqAt.RcAt A s v u b∧SeqAt.RcNeAt A s v u (!b):=by
 unfold yY at e
 split at e
 ·rename_i xs ys q1 q2
  obtain ⟨a,us,rfl,h5,r5⟩:=ze1 rel rx q1
  obtain ⟨a',us',rfl,h6,r6⟩:=ze1 rel ry q2
  cases rv;cases ru
  obtain ⟨vs,rv,pl,_⟩:=I.list (SqL.of (K:=X.K) h5)
  obtain ⟨zs,rz,pz,_⟩:=I.list (SqL.of (K:=X.K) h6)
  have l1:=r5.length;have l2:=r6.length;have l3:=rv.length;have l4:=rz.length
  by_cases hl:xs.length=ys.length
  ·rw [if_pos hl] at e
   have hsz:vs.toArray.size=zs.toArray.size:=by rw [List.size_toArray,List.size_toArray];omega
   have eb:b=(List.range vs.toArray.size).all (ans F.h 8 xs ys):=by
    rw [(zgq e).2,←hl,Nat.min_self,List.size_toArray,←l3,←l1];rfl
   have items: ∀j (h1:j < vs.toArray.size) (h2:j < zs.toArray.size),SeqAt.EqAt A.in1 s vs.toArray[j] zs.toArray[j] (ans F.h 8 xs ys j):=by
    intro j h1 h2
    have h1':j < xs.length:=by rw [l1,l3];simpa using h1
    have h2':j < ys.length:=by rw [l2,l4];simpa using h2
    obtain ⟨y1,hy1,ry1⟩:=r5.get (z4 h1')
    obtain ⟨y2,hy2,ry2⟩:=r6.get (z4 h2')
    obtain ⟨d,hd⟩:=(zgq e).1 j _ _ (z4 h1') (z4 h2')
    have ea:ans F.h 8 xs ys j=d:=by unfold ans;rw [z4 h1',z4 h2'];simp [hd]
    rw [ea]
    exact (ztl rel.heap 8 I ry1 ry2 (Vals.at rv h1 hy1) (Vals.at rz h2 hy2) hd (by show A.units+1+8 < cLine;omega)).2
   rw [eb]
   exact ⟨.lists pl.isList pz.isList hsz (by omega) items,.lists pl.isList pz.isList hsz (by omega) items⟩
  ·rw [if_neg hl] at e;cases e
   have hsz:(vs.toArray.size !=zs.toArray.size)=true:=by rw [List.size_toArray,List.size_toArray];simp;omega
   exact ⟨.lists_lengths pl.isList pz.isList hsz (by omega),.lists_lengths pl.isList pz.isList hsz (by omega)⟩
 ·split at e
  ·exact (ztl rel.heap 9 I (show Rep κ F.β F.O H _ v' from rx) (show Rep κ F.β F.O H _ u' from ry) rv ru e hu).1
  ·cases e
theorem zei (hu:X.A.units+9 < cLine):OpR X (compareOp .Eq) (rEqT κ false):=by
 intro pins s σ H x y v u Q I rx ry h
 obtain ⟨F,σ',x3,y3,b,rel,r1,r2,e,q⟩:=h
 exact (ztk I rel r1 r2 rx ry e hu).1 X.prog X.w X.xe _ ⟨.bl b,H,I,rfl,q⟩
theorem zgn (hu:X.A.units+9 < cLine):OpR X (compareOp .NotEq) (rEqT κ true):=by
 intro pins s σ H x y v u Q I rx ry h
 obtain ⟨F,σ',x3,y3,b,rel,r1,r2,e,q⟩:=h
 exact (ztk I rel r1 r2 rx ry e hu).2 X.prog X.w X.xe _ ⟨.bl !b,H,I,rfl,q⟩
theorem zeb:OpSim κ (rEqT κ false) yh:=fun F σ H x y z v w Q rel rx ry e k=>by
 unfold yh at e
 cases q:yY F.s F.h x y with
 | none=>rw [q] at e;cases e
 | some b=>rw [q] at e;cases e;exact ⟨F,σ,x,y,b,rel,rx,ry,q,k _ H Ext.refl ⟨rel,.bl _⟩⟩
theorem zgu:OpSim κ (rEqT κ true) ym:=fun F σ H x y z v w Q rel rx ry e k=>by
 unfold ym at e
 cases q:yY F.s F.h x y with
 | none=>rw [q] at e;cases e
 | some b=>rw [q] at e;cases e;exact ⟨F,σ,x,y,b,rel,rx,ry,q,k _ H Ext.refl ⟨rel,.bl _⟩⟩
end
section
variable {X:Cx} {κ:Kx} {E:XK} {F:Fr} {σ:L2.St} {H H':Hp} {Q:VK} {p:Addr} {pos np:Pos} {i:Nat} {x:Str} {e:Expr} {es:List Expr} {t:A3}
theorem z7 {id:String} {r:List V→Hp→VK→Prop} {f:FB} (hs:qj κ r f) (hc:yA X (.builtin id) r) (hg:Gl X x) (hm:X.mg x=none) (hv:bootBuiltins x=some (.builtin id)) (ha:PA X (e::es) (zy κ E t)) (hn:x≠"__name__" :=by decide) (hdb:(x==("__debug__" :Str))=false:=by decide)
 (he:starEach (e::es) X.env=(false,eval e X.env)::starEach es X.env:=by rfl) (hpl:(backTo pos (starEach es X.env)).any (·.1)=false:=by rfl):PE X (.Call (.Name x np) (e::es) [] pos) (zf κ E (eB f t)):=zZ (zoa hc hg hm hv ha hn hdb he hpl) fun _ _ _ h=>te_b hs h
theorem r_ty {T:String} {r:List V→Hp→VK→Prop} {f:FB} (hs:qj κ r f) (hc:yA X (.type T) r) (hg:Gl X x) (hm:X.mg x=none) (hv:bootBuiltins x=some (.type T)) (ha:PA X (e::es) (zy κ E t)) (hn:x≠"__name__" :=by decide) (hdb:(x==("__debug__" :Str))=false:=by decide)
 (he:starEach (e::es) X.env=(false,eval e X.env)::starEach es X.env:=by rfl) (hpl:(backTo pos (starEach es X.env)).any (·.1)=false:=by rfl):PE X (.Call (.Name x np) (e::es) [] pos) (zf κ E (eB f t)):=zZ (zlg hc hg hm hv ha hn hdb he hpl) fun _ _ _ h=>te_b hs h
theorem p1 {f:Rf} {vs:List V} (r:Paired (RfR κ F H) [f] vs): ∃v,vs=[v]∧RfR κ F H f v:=by
 cases r with | cons a t=>cases t;exact ⟨_,rfl,a⟩
theorem p2 {f g:Rf} {vs:List V} (r:Paired (RfR κ F H) [f,g] vs): ∃v w,vs=[v,w]∧RfR κ F H f v∧RfR κ F H g w:=by
 cases r with | cons a t=>cases t with | cons b t=>cases t;exact ⟨_,_,rfl,a,b⟩
def bLen:FB:=fun s h fs=>match fs with
 | [.x (.str y)]=>if y.length≤sizeLine then some (.v (.int y.length)) else none
 | [.x (.tup xs)]=>some (.v (.int xs.length))
 | [f]=>(rdl s h f).map fun xs=> .v (.int xs.length)
 | _=>none
theorem yU:qj κ (fun xs H Q=> ∃x n,xs=[x]∧LenV κ.K x H n∧Q (.int n) H) bLen:=fun F σ H fs z vs Q rel r e k=>by
 unfold bLen at e
 split at e
 ·rename_i y
  obtain ⟨v,rfl,rv⟩:=p1 r
  cases (show Rep κ F.β F.O H (.str y) v from rv)
  obtain ⟨h,rfl⟩:=qd e
  exact ⟨_,_,rfl,⟨h,rfl⟩,k _ H Ext.refl ⟨rel,.int _⟩⟩
 ·rename_i xs
  obtain ⟨v,rfl,rv⟩:=p1 r
  cases e
  cases (show Rep κ F.β F.O H (.tup xs) v from rv) with
  | tup h1 h2 h3 h4=>exact ⟨_,_,rfl,.inr ⟨_,.of h1,rfl⟩,k _ H Ext.refl ⟨rel,by rw [h4.length];exact .int _⟩⟩
 ·rename_i f _ _
  obtain ⟨v,rfl,rv⟩:=p1 r
  cases q:rdl F.s F.h f with
  | none=>rw [q] at e;cases e
  | some xs=>
   rw [q] at e;cases e
   obtain ⟨a,ys,rfl,sq,rs⟩:=ze4 rel rv q
   exact ⟨_,_,rfl,.inl ⟨_,sq,rfl⟩,k _ H Ext.refl ⟨rel,by rw [rs.length];exact .int _⟩⟩
 ·cases e
theorem yP (hK:X.K=κ.K):yA X (.builtin "len") (fun xs H Q=> ∃x n,xs=[x]∧LenV κ.K x H n∧Q (.int n) H):=by rw [←hK];exact zoy
def bMax:FB:=fun _ _ fs=>match fs with
 | [.x (.int i),.x (.int j)]=>some (.v (.int (max i j)))
 | _=>none
def bMin:FB:=fun _ _ fs=>match fs with
 | [.x (.int i),.x (.int j)]=>some (.v (.int (min i j)))
 | _=>none
def bMin3:FB:=fun _ _ fs=>match fs with
 | [.x (.int i),.x (.int j),.x (.int k)]=>some (.v (.int (min i (min j k))))
 | _=>none
theorem zne:qj κ (fun xs H Q=> ∃i j,xs=[.int i,.int j]∧Q (.int (if j > i then j else i)) H) bMax:=fun F σ H fs z vs Q rel r e k=>by
 unfold bMax at e
 split at e
 ·rename_i i j
  cases e
  obtain ⟨v,w,rfl,rv,rw'⟩:=p2 r
  cases (show Rep κ F.β F.O H (.int i) v from rv)
  cases (show Rep κ F.β F.O H (.int j) w from rw')
  refine ⟨i,j,rfl,k _ H Ext.refl ⟨rel,?_⟩⟩
  have:(if j > i then j else i)=max i j:=by split <;> omega
  rw [this];exact .int _
 ·cases e
theorem zq3:qj κ (fun xs H Q=> ∃i j,xs=[.int i,.int j]∧Q (.int (if j < i then j else i)) H) bMin:=fun F σ H fs z vs Q rel r e k=>by
 unfold bMin at e
 split at e
 ·rename_i i j
  cases e
  obtain ⟨v,w,rfl,rv,rw'⟩:=p2 r
  cases (show Rep κ F.β F.O H (.int i) v from rv)
  cases (show Rep κ F.β F.O H (.int j) w from rw')
  refine ⟨i,j,rfl,k _ H Ext.refl ⟨rel,?_⟩⟩
  have:(if j < i then j else i)=min i j:=by split <;> omega
  rw [this];exact .int _
 ·cases e
def bInt:FB:=fun _ _ fs=>match fs with
 | [.x (.int i)]=>some (.v (.int i))
 | [.x (.bl b)]=>some (.v (.int (if b then 1 else 0)))
 | _=>none
def bList:FB:=fun s h fs=>match fs with
 | [.x (.tup xs)]=>some (.m (.lst xs))
 | [f]=>(rdl s h f).map fun xs=> .m (.lst xs)
 | _=>none
theorem zom:qj κ (fun xs H Q=> ∃p ys,xs=[.ref p]∧(SqL κ.K H p ys∨SqT κ.K H p ys)∧∀l,H l=none→Q (.ref l) (zg H l (.lst ys))) bList:=fun F σ H fs z vs Q rel r e k=>by
 unfold bList at e
 split at e
 ·rename_i xs
  cases e
  obtain ⟨v,rfl,rv⟩:=p1 r
  cases (show Rep κ F.β F.O H (.tup xs) v from rv) with
  | tup h1 h2 h3 h4=>exact ⟨_,_,rfl,.inr (.of h1),fun l hl=>k _ _ (yv hl) (Post.lst rel hl h4)⟩
 ·rename_i f _
  obtain ⟨v,rfl,rv⟩:=p1 r
  cases q:rdl F.s F.h f with
  | none=>rw [q] at e;cases e
  | some xs=>
   rw [q] at e;cases e
   obtain ⟨a,ys,rfl,sq,rs⟩:=ze4 rel rv q
   exact ⟨_,_,rfl,.inl sq,fun l hl=>k _ _ (yv hl) (Post.lst rel hl rs)⟩
 ·cases e
def zV {α β:Type} (f:α→Option β):List α→Option (List β)
 | []=>some []
 | x::r=>match f x,zV f r with
  | some y,some l=>some (y::l)
  | _,_=>none
theorem zg1 {α β γ:Type} {f:α→Option β} {g:γ→α} {k:γ→β} (h: ∀c,f (g c)=some (k c)): ∀l:List γ,zV f (l.map g)=some (l.map k)
 | []=>rfl
 | x::r=>by simp only [List.map_cons,zV,h x,zg1 h r]
theorem zh5 {α β:Type} {f:α→Option β} {x:α} {r:List α} {l:List β} (e:zV f (x::r)=some l): ∃y l',f x=some y∧zV f r=some l'∧l=y::l':=by
 unfold zV at e
 cases q1:f x with
 | none=>simp only [q1] at e;cases e
 | some y=>
  cases q2:zV f r with
  | none=>simp only [q1,q2] at e;cases e
  | some l'=>simp only [q1,q2] at e;cases e;exact ⟨y,l',rfl,rfl,rfl⟩
def bl3:V3→Option Bool
 | .bl b=>some b
 | _=>none
def int3:V3→Option Int
 | .int i=>some i
 | _=>none
theorem zj0: ∀{xs:List V3} {ys:List V} {bs:List Bool},Reps κ F.β F.O H xs ys→zV bl3 xs=some bs→ys=bs.map V.bl
 | _,_,_,.nil,e=>by cases e;rfl
 | x::xs,y::ys,bs,.cons a r,e=>by
  obtain ⟨b,l,h1,h2,rfl⟩:=zh5 e
  cases x <;> simp [bl3] at h1
  subst h1
  cases a
  rw [List.map_cons,zj0 r h2]
theorem zmr: ∀{xs:List V3} {ys:List V} {bs:List Int},Reps κ F.β F.O H xs ys→zV int3 xs=some bs→ys=bs.map V.int
 | _,_,_,.nil,e=>by cases e;rfl
 | x::xs,y::ys,bs,.cons a r,e=>by
  obtain ⟨b,l,h1,h2,rfl⟩:=zh5 e
  cases x <;> simp [int3] at h1
  subst h1
  cases a
  rw [List.map_cons,zmr r h2]
def bAll (q:List Bool→Bool):FB:=fun s h fs=>match fs with
 | [f]=>match rdl s h f with
  | some xs=>(zV bl3 xs).map fun bs=> .v (.bl (q bs))
  | none=>none
 | _=>none
theorem zrn {q:List Bool→Bool}:qj κ (fun xs H Q=> ∃(p:Addr) (bs:List Bool),xs=[.ref p]∧SqL κ.K H p (bs.map V.bl)∧Q (.bl (q bs)) H) (bAll q):=fun F σ H fs z vs Q rel r e k=>by
 unfold bAll at e
 split at e
 ·rename_i f
  obtain ⟨v,rfl,rv⟩:=p1 r
  cases q1:rdl F.s F.h f with
  | none=>rw [q1] at e;cases e
  | some xs=>
   rw [q1] at e
   cases q2:zV bl3 xs with
   | none=>simp only [q2] at e;cases e
   | some bs=>
    simp only [q2] at e;cases e
    obtain ⟨a,ys,rfl,sq,rs⟩:=ze4 rel rv q1
    exact ⟨a,bs,rfl,by rw [←zj0 rs q2];exact sq,k _ H Ext.refl ⟨rel,.bl _⟩⟩
 ·cases e
theorem zm2 (hK:X.K=κ.K) (hc:X.calm=true):yA X (.builtin "all") (fun xs H Q=> ∃(p:Addr) (bs:List Bool),xs=[.ref p]∧SqL κ.K H p (bs.map V.bl)∧Q (.bl (bs.all id)) H):=by rw [←hK];exact zoc hc
theorem zkb (hK:X.K=κ.K):yA X (.type "list") (fun xs H Q=> ∃p ys,xs=[.ref p]∧(SqL κ.K H p ys∨SqT κ.K H p ys)∧∀l,H l=none→Q (.ref l) (zg H l (.lst ys))):=by rw [←hK];exact zhz
instance {x:Int}:Decidable (InLong x):=inferInstanceAs (Decidable (_∧_))
def zhx:Int→List Int→Bool
 | _,[]=>true
 | a,x::r=>decide (InLong x) && decide (InLong (a+x)) && zhx (a+x) r
theorem zj5: ∀{ns:List Int} {a:Int},zhx a ns=true→∀j,j < ns.length→InLong (ns.getD j 0)∧InLong (a+(ns.take (j+1)).sum)
 | [],_,_,j,h=>by simp at h
 | x::r,a,e,j,h=>by
  simp only [zhx,Bool.and_eq_true,decide_eq_true_eq] at e
  cases j with
  | zero=>simpa using e.1
  | succ j=>
   have:=zj5 (a:=a+x) e.2 j (by simpa using h)
   rw [List.take_succ_cons,List.sum_cons,←Int.add_assoc]
   simpa using this
def bSum:FB:=fun s h fs=>match fs with
 | [f]=>match rdl s h f with
  | some xs=>match zV int3 xs with
   | some ns=>if zhx 0 ns=true then some (.v (.int ns.sum)) else none
   | none=>none
  | none=>none
 | _=>none
theorem zqn:qj κ (fun xs H Q=> ∃(p:Addr) (ns:List Int),xs=[.ref p]∧SqL κ.K H p (ns.map V.int)∧zp7 ns∧Q (.int ns.sum) H) bSum:=fun F σ H fs z vs Q rel r e k=>by
 unfold bSum at e
 split at e
 ·rename_i f
  obtain ⟨v,rfl,rv⟩:=p1 r
  cases q1:rdl F.s F.h f with
  | none=>rw [q1] at e;cases e
  | some xs=>
   rw [q1] at e
   cases q2:zV int3 xs with
   | none=>simp only [q2] at e;cases e
   | some bs=>
    simp only [q2] at e
    obtain ⟨h,rfl⟩:=qd e
    obtain ⟨a,ys,rfl,sq,rs⟩:=ze4 rel rv q1
    exact ⟨a,bs,rfl,by rw [←zmr rs q2];exact sq,fun j hj=>by have:=zj5 h j hj;rw [Int.zero_add] at this;exact this,k _ H Ext.refl ⟨rel,.int _⟩⟩
 ·cases e
theorem zls (hK:X.K=κ.K) (hc:X.calm=true):yA X (.builtin "sum") (fun xs H Q=> ∃(p:Addr) (ns:List Int),xs=[.ref p]∧SqL κ.K H p (ns.map V.int)∧zp7 ns∧Q (.int ns.sum) H):=by rw [←hK];exact zoh hc
def ty3 (s:S3) (h:H3):Rf→Option String
 | .x .non=>some "NoneType"
 | .x (.bl _)=>some "bool"
 | .x (.int _)=>some "int"
 | .x (.str _)=>some "str"
 | .x (.tup _)=>some "tuple"
 | .x (.dT _)=>some "dict"
 | .x (.scr _)=>none
 | f=>(rdl s h f).map fun _=>"list"
def isa (t T:String):Option Bool:=
 if T="int" then some (t=="int" || t=="bool") else if T="bool" ∨T="str" ∨T="list" ∨T="tuple" then some (t==T) else none
def bIsT:FB:=fun s h fs=>match fs with
 | [f,.x (.ty T)]=>match ty3 s h f with
  | some t=>(isa t T).map fun b=> .v (.bl b)
  | none=>none
 | _=>none
theorem zre {K:PySem.W.Frag} {t T:String} {b:Bool} (ht:t∈["NoneType","bool","int","str","tuple","list","dict"]) (e:isa t T=some b):PySem.W.kitOne K (.type t) (.type T)=some b:=by
 unfold isa at e
 have hT:T∈["int","bool","str","list","tuple"]:=by
  by_cases h:T="int"
  ·simp [h]
  ·rw [if_neg h] at e
   by_cases h2:T="bool" ∨T="str" ∨T="list" ∨T="tuple"
   ·simp only [List.mem_cons,List.not_mem_nil,or_false];exact .inr h2
   ·rw [if_neg h2] at e;cases e
 simp only [List.mem_cons,List.not_mem_nil,or_false] at ht hT
 rcases ht with rfl | rfl | rfl | rfl | rfl | rfl | rfl <;> rcases hT with rfl | rfl | rfl | rfl | rfl <;> (simp at e;subst e;rfl)
theorem ztv {f:Rf} {v:V} {t:String} (rel:Rel κ F σ H) (r:RfR κ F H f v) (e:ty3 F.s F.h f=some t):t∈["NoneType","bool","int","str","tuple","list","dict"]∧TyOf κ.K H v (.type t):=by
 have lists: ∀{f:Rf} {v:V} {t:String},RfR κ F H f v→(∀ns,f≠ .x (.scr ns))→((rdl F.s F.h f).map fun _=>"list")=some t→t∈["NoneType","bool","int","str","tuple","list","dict"]∧TyOf κ.K H v (.type t):=by
  intro f v t r hf e
  cases q:rdl F.s F.h f with
  | none=>rw [q] at e;cases e
  | some xs=>
   rw [q] at e;cases e
   have q2:rdm F.s F.h f=some xs:=by
    unfold rdm
    split
    ·rename_i ns;exact absurd rfl (hf ns)
    ·exact q
   obtain ⟨a,ys,rfl,ha,_⟩:=ze1 rel r q2
   exact ⟨by simp,.lst ha⟩
 cases f with
 | s i=>exact lists r (fun _ z=>nomatch z) e
 | x y=>
  cases y with
  | non=>cases e;cases (show Rep κ F.β F.O H .non v from r);exact ⟨by simp,.non⟩
  | bl b=>cases e;cases (show Rep κ F.β F.O H (.bl b) v from r);exact ⟨by simp,.bl b⟩
  | int b=>cases e;cases (show Rep κ F.β F.O H (.int b) v from r);exact ⟨by simp,.int b⟩
  | str b=>cases e;cases (show Rep κ F.β F.O H (.str b) v from r);exact ⟨by simp,.str b⟩
  | tup xs=>cases e;cases (show Rep κ F.β F.O H (.tup xs) v from r) with | tup h1 _ _ _=>exact ⟨by simp,.tup h1⟩
  | dT kvs=>cases e;cases (show Rep κ F.β F.O H (.dT kvs) v from r) with | dT h1 _ _ _=>exact ⟨by simp,.dT h1⟩
  | scr ns=>cases e
  | lst xs=>exact lists r (fun _ z=>nomatch z) e
  | loc n=>exact lists r (fun _ z=>nomatch z) e
  | _=>cases e
theorem zdd:qj κ (fun xs H Q=> ∃x T t b,xs=[x,.ty T]∧TyOf κ.K H x t∧PySem.W.kitOne κ.K t (.type T)=some b∧Q (.bl b) H) bIsT:=fun F σ H fs z vs Q rel r e k=>by
 unfold bIsT at e
 split at e
 ·rename_i f T
  obtain ⟨v,w,rfl,rv,rw'⟩:=p2 r
  cases (show Rep κ F.β F.O H (.ty T) w from rw')
  cases q1:ty3 F.s F.h f with
  | none=>rw [q1] at e;cases e
  | some t=>
   rw [q1] at e
   cases q2:isa t T with
   | none=>simp only [q2] at e;cases e
   | some b=>
    simp only [q2] at e;cases e
    obtain ⟨h1,h2⟩:=ztv rel rv q1
    exact ⟨v,T,_,b,rfl,h2,zre h1 q2,k _ H Ext.refl ⟨rel,.bl _⟩⟩
 ·cases e
theorem zcg (hK:X.K=κ.K):yA X (.builtin "isinstance") (fun xs H Q=> ∃x T t b,xs=[x,.ty T]∧TyOf κ.K H x t∧PySem.W.kitOne κ.K t (.type T)=some b∧Q (.bl b) H):=by rw [←hK];exact zig
def tru3 (s:S3) (h:H3):Rf→Option Bool
 | .x .non=>some false
 | .x (.bl b)=>some b
 | .x (.int i)=>some (i !=0)
 | .x (.str y)=>if y.length≤sizeLine then some ((y.length:Int) !=0) else none
 | .x (.tup xs)=>some (!xs.isEmpty)
 | f=>(rdl s h f).map fun xs=> !xs.isEmpty
def tP (p:P3):T3:=fun s h=>(p s h).bind fun f h1=>match tru3 s h1 f with
 | some b=> .ok b h1
 | none=> .no
theorem zey {xs:List V3} {ys:List V} (r:Reps κ F.β F.O H xs ys):xs.isEmpty=ys.isEmpty:=by cases r <;> rfl
theorem zqd {f:Rf} {v:V} {b:Bool} (rel:Rel κ F σ H) (r:RfR κ F H f v) (e:tru3 F.s F.h f=some b):TruV κ.K v H b:=by
 have lists: ∀{f:Rf} {v:V} {b:Bool},RfR κ F H f v→((rdl F.s F.h f).map fun xs=> !xs.isEmpty)=some b→TruV κ.K v H b:=by
  intro f v b r e
  cases q:rdl F.s F.h f with
  | none=>rw [q] at e;cases e
  | some xs=>
   rw [q] at e;cases e
   obtain ⟨a,ys,rfl,sq,rs⟩:=ze4 rel r q
   exact .inl ⟨ys,sq,by show (!xs.isEmpty)=_;rw [zey rs]⟩
 cases f with
 | s i=>exact lists r e
 | x y=>
  cases y with
  | non=>cases e;cases (show Rep κ F.β F.O H .non v from r);rfl
  | bl b=>cases e;cases (show Rep κ F.β F.O H (.bl b) v from r);rfl
  | int b=>cases e;cases (show Rep κ F.β F.O H (.int b) v from r);rfl
  | str b=>cases (show Rep κ F.β F.O H (.str b) v from r);obtain ⟨h,rfl⟩:=qd e;exact ⟨h,rfl⟩
  | tup xs=>cases e;cases (show Rep κ F.β F.O H (.tup xs) v from r) with | tup h1 _ _ h4=>exact .inr (.inl ⟨_,.of h1,by rw [zey h4]⟩)
  | scr ns=>exact lists r e
  | lst xs=>exact lists r e
  | loc n=>exact lists r e
  | _=>cases e
theorem zpt {a:Expr} {d:P3} (hK:X.K=κ.K) (ha:PE X a (zn κ E d)) (he: ∀whole,isTrue a X.env whole=(do let v ←whole;standAt a.pos;holding [v] (truthy v)):=by intro _;rfl):PT X a (zK κ E (tP d)):=PTw (zn2 ha he) fun σ H Q ⟨F,rel,o⟩=>
 (zQ (K:=kP κ) km_T rel o).mono fun v H1 ⟨β1,h1,f,e1,⟨r1,rf⟩,o1⟩=>by
  cases q:tru3 F.s h1 f with
  | none=>simp only [q] at o1;exact o1.elim
  | some b=>
   simp only [q] at o1
   exact ⟨b,by rw [hK];exact zqd (F:=F.to β1 h1) r1 rf q,o1 β1 b H1 Ext.refl ⟨rfl,r1⟩⟩
theorem zht: ∀l:List Int,Reps κ F.β F.O H (l.map V3.int) (l.map V.int)
 | []=> .nil
 | x::r=> .cons (.int x) (zht r)
end
section
variable {X:Cx} {κ:Kx} {E:XK} {F F1 F2 F':Fr} {σ σ':L2.St} {H H1 H2 H':Hp} {Q:VK} {p:Addr} {e a b o:Expr} {pos apos np:Pos} {i:Nat} {D:Ends}
def yS (a:A3):I3:=fun s h=>(a s h).bind fun fs h1=>match fs with
 | [.x (.int j)]=>if -(2 ^ 62)≤j∧j < 2 ^ 62 then .ok ⟨[],(List.range j.toNat).map fun k=> .int (0+(k:Nat)),fun _=>True⟩ h1 else .no
 | _=> .no
theorem zon {lo:Int} {n:Nat}:IR κ ⟨[],(List.range n).map fun k=> .int (lo+(k:Nat)),fun _=>True⟩ [] (Itr lo n):=fun F σ H rel _ _ i=>by
 have el:((List.range n).map fun k=>V3.int (lo+(k:Nat))).length=n:=by simp
 refine ⟨fun hi=>⟨show i < n by rw [el] at hi;exact hi,fun x H' ⟨e1,e2⟩=>?_⟩,fun hi=>show n≤i by rw [el] at hi;exact hi⟩
 subst e1;subst e2
 have hi:i < n:=by simpa using hi
 exact ⟨.int (lo+i),by simp [hi],Ext.refl,rel,.int _⟩
theorem zfh {tg:Expr} {t:A3} (hg:Gl X "range") (hm:X.mg "range" =none) (ha:PA X [a] (zy κ E t)) (hs:starEach [a] X.env=[(false,eval a X.env)]:=by rfl):PI X tg (.Call (.Name "range" np) [a] [] pos) (tiOf κ E (yS t)):=PIw (znh hg hm ha hs) fun σ H R ⟨F,rel,o⟩=>
 (zQ (K:=kA κ) km_I rel o).mono fun vs H1 ⟨β1,h1,fs,e1,⟨r1,rf⟩,o1⟩=>by
  match fs,rf,o1 with
  | [.x (.int j)],rf,o1=>
   obtain ⟨v,rfl,rv⟩:=p1 rf
   cases (show Rep κ β1 F.O H1 (.int j) v from rv)
   by_cases hj: -(2 ^ 62)≤j∧j < 2 ^ 62
   ·simp only [if_pos hj] at o1
    exact ⟨j,rfl,hj.1,hj.2,o1 β1 _ H1 Ext.refl ⟨r1,[],.nil,zon⟩⟩
   ·simp only [if_neg hj] at o1;exact o1.elim
def zri (a:A3):I3:=fun s h=>(a s h).bind fun fs h1=>match fs with
 | [.x x,.x y]=>match yr h1 x,yr h1 y with
  | some (xs,ok),some (ys,ok')=> .ok ⟨[x,y],(xs.zip ys).map fun q=> .tup [q.1,q.2],fun h=>ok h∧ok' h⟩ h1
  | _,_=> .no
 | _=> .no
theorem Rel.tup2 {x y:V3} {v w:V} {T:Addr} (rel:Rel κ F σ H) (hT:H T=none) (rx:Rep κ F.β F.O H x v) (ry:Rep κ F.β F.O H y w):Ext No F.β H F.β (zg H T (.tup [v,w]))∧Rel κ F σ (zg H T (.tup [v,w]))∧Rep κ F.β F.O (zg H T (.tup [v,w])) (.tup [x,y]) (.ref T):=by
 have q:=Post.tup (N:=No) rel hT (.cons rx (.cons ry .nil))
 exact ⟨yv hT,q.1,q.2⟩
theorem zs5 {elts:List Expr} {x1} {tp:Pos} {t:A3} (hK:X.K=κ.K) (hg:Gl X "zip") (hm:X.mg "zip" =none) (ha:PA X [a,b] (zy κ E t)) (hs:starEach [a,b] X.env=[(false,eval a X.env),(false,eval b X.env)]:=by rfl) (hs2:starEach [b] X.env=[(false,eval b X.env)]:=by rfl):PI X (.Tuple elts x1 tp) (.Call (.Name "zip" np) [a,b] [] pos) (tiOf κ E (zri t)):=PIw (zt6 hg hm ha hs hs2) fun σ H R ⟨F,rel,o⟩=>
 (zQ (K:=kA κ) km_I rel o).mono fun vs H1 ⟨β1,h1,fs,e1,⟨r1,rf⟩,o1⟩=>by
  match fs,rf,o1 with
  | [.x x,.x y],rf,o1=>
   obtain ⟨v,w,rfl,rv,rw'⟩:=p2 rf
   have rv:Rep κ β1 F.O H1 x v:=rv
   have rw':Rep κ β1 F.O H1 y w:=rw'
   cases q:yr h1 x with
   | none=>simp only [q] at o1;exact o1.elim
   | some w=>
    obtain ⟨xs,ok⟩:=w
    cases q2:yr h1 y with
    | none=>simp only [q,q2] at o1;exact o1.elim
    | some w'=>
     obtain ⟨ys,ok'⟩:=w'
     simp only [q,q2] at o1
     obtain ⟨c,us,rfl,sq,rs⟩:=zep (F:=F.to β1 h1) q r1 rv (zen q).1
     obtain ⟨d,ws,rfl,sq2,rs2⟩:=zep (F:=F.to β1 h1) q2 r1 rw' (zen q2).1
     rw [hK]
     refine ⟨c,d,us,ws,rfl,sq,sq2,o1 β1 _ H1 Ext.refl ⟨r1,[.ref c,.ref d],.cons rv (.cons rw' .nil),fun F' σ' H' rel' r' hk i=>?_⟩⟩
     cases r' with
     | cons ra r''=>
      cases r'' with
      | cons rb _=>
       obtain ⟨c',us',ec,sq',rs'⟩:=zep q rel' ra hk.1
       cases ec
       obtain ⟨d',ws',ed,sq2',rs2'⟩:=zep q2 rel' rb hk.2
       cases ed
       have hl:=rs'.length;have hl2:=rs2'.length
       have el:((xs.zip ys).map fun q=>V3.tup [q.1,q.2]).length=min xs.length ys.length:=by simp
       refine ⟨fun hi=>?_,fun hi=>⟨us',ws',sq',sq2',by rw [←hl,←hl2];rw [el] at hi;omega⟩⟩
       rw [el] at hi
       have h1:i < xs.length:=by omega
       have h2:i < ys.length:=by omega
       obtain ⟨y1,hy1,ry1⟩:=rs'.get (z4 h1)
       obtain ⟨y2,hy2,ry2⟩:=rs2'.get (z4 h2)
       refine ⟨⟨us',ws',y1,y2,sq',sq2',hy1,hy2⟩,fun x' H'' yl=>?_⟩
       obtain ⟨T,z1,z2,rfl,hT,rfl,hz1,hz2⟩:=yl
       have t1:=hz1 us' sq'
       have t2:=hz2 ws' sq2'
       rw [hy1] at t1;cases t1
       rw [hy2] at t2;cases t2
       obtain ⟨q1,q2,q3⟩:=Rel.tup2 rel' hT ry1 ry2
       refine ⟨.tup [xs[i],ys[i]],?_,q1,q2,q3⟩
       rw [List.getElem?_map,(List.getElem?_zip_eq_some (z:=(xs[i],ys[i]))).mpr ⟨z4 h1,z4 h2⟩];rfl
def cst3 (n:Nat) (fr:List Nat) (s:S3):S3:=List.replicate n none++fr.map fun j=>match s[j]? with
 | some (some (.v x))=>some (.v x)
 | _=>none
open Classical in
def yI (ok:H3→Prop) (g:G3) (c:T3) (e:E3):List V3→List V3→S3→H3→Res (List V3)
 | [],acc,_,h=>if ok h then .ok acc h else .no
 | x::r,acc,s,h=>if ok h then match g x s with
  | none=> .no
  | some s1=>match c s1 h with
   | .ok true h1=>match e s1 h1 with
    | .ok v h2=>match v.fz with
     | some y=>if acc.length < sizeLine then yI ok g c e r (acc++[y]) s1 h2 else .no
     | none=> .no
    | _=> .no
   | .ok false h1=>yI ok g c e r acc s1 h1
   | _=> .no
  else .no
def zm7 (n:Nat) (fr:List Nat) (it:I3) (g:G3) (c:T3) (e:E3):E3:=fun s h=>(it s h).bind fun I h1=>(yI I.ok g c e I.xs [] (cst3 n fr s) h1).bind fun vs h2=> .ok (.m (.lst vs)) h2
def tTru:T3:=fun _ h=> .ok true h
theorem zru:PTs X [] (zK κ E tTru):=fun pins s σ H Q I ⟨F,rel,o⟩=>zrw pins s σ H Q I (o F.β true H Ext.refl ⟨rfl,rel⟩)
theorem zem {β:List (Option Addr)} {d:Addr} {o:HO} (ho: ∃u,H d=some u):Ext (fun a=>a=d) β H β (zg H d o):=
 ⟨fun a u ha hn m=>⟨by rw [zl m];exact ha,hn⟩,Nat.le_refl _,fun _ _ _ h=>h,fun a u ha=>by
  by_cases z:a=d
  ·subst z;exact ⟨o,zI⟩
  ·exact ⟨u,by rw [zl z];exact ha⟩,nwb0⟩
theorem RelH.wrO {O:Addr→Prop} {β:List (Option Addr)} {h:H3} {d:Addr} {u:HO} (r:RelH κ O β h H) (hd:O d) (hu: ∀ys,u≠HO.tup ys:=by intro _ z;cases z):RelH κ O β h (zg H d u):=by
 have ex:=zem (β:=β) (o:=u) (r.trk' d hd)
 have th: ∀a w,H a=some w→(∀ys,w≠HO.tup ys)→∃w,zg H d u a=some w∧∀ys,w≠HO.tup ys:=fun a w q n=>by
  by_cases z:a=d
  ·subst z;exact ⟨u,zI,hu⟩
  ·exact ⟨w,by rw [zl z];exact q,n⟩
 refine ⟨r.len,r.inj,r.off,fun a ha=>let ⟨w,q,n⟩:=r.trk a ha;th a w q n,fun i a q=>let ⟨w,z,n⟩:=r.btr i a q;th a w z n,fun i c hc=>(r.cell i c hc).imp id fun ⟨a,ha,q⟩=>⟨a,ha,q.ext ex (fun b hb=>by rw [hb];exact hd) (fun _ _ _ n=>n) fun w hw=>?_⟩⟩
 rw [zl (fun z=>by subst z;exact r.off a hd (List.mem_of_getElem? ha))];exact hw
theorem Rel.wrOi {d:Addr} {u:HO} (r:Rel κ F σ H) (hd:F.Oi d) (hu: ∀ys,u≠HO.tup ys:=by intro _ z;cases z):Rel κ F σ (zg H d u) where
 heap:=r.heap.wrO (.inr (.inr hd)) hu
 slen:=r.slen
 llen:=r.llen
 linj:=r.linj
 lt:=r.lt
 lo:=r.lo
 to:=r.to
 tn:=r.tn
 slot:=fun i x q=>by
  have hO:F.O d:= .inr (.inr hd)
  have ex:=zem (β:=F.β) (o:=u) (r.heap.trk' d hO)
  obtain ⟨v,h1,h2⟩:=r.slot i x q
  refine ⟨v,h1,?_⟩
  cases x with
  | v x=>exact Rep.ext ex (fun b hb=>by rw [hb];exact hO) (fun _ _ _ n=>n) h2
  | m c=>
   obtain ⟨a,a1,a2,a3⟩:=h2
   refine ⟨a,a1,a2,a3.ext ex (fun b hb=>by rw [hb];exact hO) (fun _ _ _ n=>n) fun w hw=>?_⟩
   rw [zl (fun z=>by subst z;exact r.lo a (List.mem_of_getElem? a1) hd)];exact hw
theorem zmy {n:Nat} {fr:List Nat} {s:S3} {i:Nat} {x:Vl} (h:(cst3 n fr s)[i]? =some (some x)): ∃j y,fr[i - n]? =some j∧n≤i∧s[j]? =some (some (.v y))∧x= .v y:=by
 unfold cst3 at h
 by_cases hi:i < n
 ·rw [List.getElem?_append_left (by simpa using hi),List.getElem?_replicate] at h
  split at h <;> cases h
 ·rw [List.getElem?_append_right (by simpa using hi),List.length_replicate,List.getElem?_map] at h
  cases q:fr[i - n]? with
  | none=>rw [q] at h;cases h
  | some j=>
   rw [q] at h
   simp only [Option.map_some,Option.some.injEq] at h
   split at h
   ·rename_i y hy;cases h;exact ⟨j,y,rfl,by omega,hy,rfl⟩
   ·cases h
theorem zq2 {n:Nat} {fr:List Nat} {it:I3} {g:G3} {c:T3} {d:E3} (h:zf κ E (zm7 n fr it g c d) σ H Q):zqf (tiOf κ E it) n fr (tgOf κ g) (zK κ E0 c) (zf κ E0 d) σ H Q:=by
 obtain ⟨F,rel,o⟩:=h
 refine (zQ (K:=kI κ) zF rel o).mono fun J H1 ⟨β1,h1,I,e1,⟨r1,vs,rv,ir⟩,o1⟩=>fun D hD=>?_
 have hDH:H D=none:=e1.nw D hD
 let Oi:Addr→Prop:=fun a=>a=D∨F.O a
 have rn:=(r1.new (o:= .lst []) hD)
 have rh1:RelH κ Oi β1 h1 (zg H1 D (.lst [])):=rn.1.heap.sub fun a ha=>ha.elim (fun z=> .inl (by rw [z];exact List.mem_cons_self)) fun z=>Fr.O_with z
 have hO1: ∀a u,H1 a=some u→¬F.O a→¬Oi a:=fun a u ha n z=>z.elim (fun w=>by subst w;rw [hD] at ha;cases ha) n
 let F0:Fr:=⟨Oi,[],β1,List.replicate (cst3 n fr F.s).length none,cst3 n fr F.s,h1⟩
 have sub0: ∀(F':Fr),F'.T=[]→(∀a,some a∉F'.l)→F'.Oi=Oi→∀a,F'.O a→Oi a:=fun F' t l oi a ha=>by
  rcases ha with z | z | z
  ·rw [t] at z;cases z
  ·exact absurd z (l a)
  ·rw [oi] at z;exact z
 have hlen:(cst3 n fr F.s).length=(cst n fr σ).length:=by unfold cst3 cst;simp
 have rel0:Rel κ F0 (cst n fr σ) (zg H1 D (.lst [])):=by
  refine ⟨rh1.sub (sub0 F0 rfl (fun a=>yZ) rfl),hlen,?_,fun i j a h=>absurd (List.mem_of_getElem? h) yZ,fun a ha=>absurd ha yZ,fun a ha=>absurd ha yZ,fun a ha=>(by cases ha),List.nodup_nil,fun i x hx=>?_⟩
  ·show (List.replicate (cst3 n fr F.s).length (none:Option Addr)).length=(cst3 n fr F.s).length
   simp
  ·obtain ⟨j,y,hj,hi,hy,rfl⟩:=zmy hx
   obtain ⟨v,hv,rv⟩:=r1.slot j _ hy
   refine ⟨v,?_,Rep.sub (sub0 F0 rfl (fun a=>yZ) rfl) (Rep.ext (yv hD) (fun _ z=>z.elim) hO1 (show Rep κ β1 F.O H1 y v from rv))⟩
   unfold cst
   rw [List.getElem?_append_right (by simpa using hi),List.length_replicate,List.getElem?_map,hj]
   simp [hv]
 have rv0:Reps κ β1 Oi (zg H1 D (.lst [])) I.its vs:=rv.ext (yv hD) (fun _ z=>z.elim) hO1
 refine ⟨fun i m acc σ' H'=>m=I.xs.length - i∧i≤I.xs.length∧H' D=some (.lst acc)∧∃(F':Fr) (acc3:List V3),Rel κ F' σ' H'∧F'.T=[]∧(∀a,some a∉F'.l)∧F'.Oi=Oi∧Reps κ F'.β Oi H' I.its vs∧Reps κ F'.β Oi H' acc3 acc∧Ext No β1 H1 F'.β H'∧
   Out κ E (kE κ) (F.to β1 h1) σ H1 Q ((yI I.ok g c d (I.xs.drop i) acc3 F'.s F'.h).bind fun vs h2=> .ok (.m (.lst vs)) h2),
  ⟨_,rfl,Nat.zero_le _,zI,F0,[],rel0,rfl,fun a=>yZ,rfl,rv0,.nil,yv hD,o1⟩,?_⟩
 rintro i m acc σ' H' ⟨rfl,hi,hacc,F',acc3,rel',ht,hl,hoi,rits,racc,ex,out⟩
 refine ⟨hacc,?_⟩
 have hO: ∀a,F'.O a↔Oi a:=fun a=>⟨sub0 F' ht hl hoi a,fun z=> .inr (.inr (by rw [hoi];exact z))⟩
 have eO:F'.O=Oi:=funext fun a=>propext (hO a)
 by_cases hok:I.ok F'.h
 case neg=>
  exfalso
  cases q:I.xs.drop i with
  | nil=>rw [q] at out;unfold yI at out;rw [if_neg hok] at out;exact out
  | cons x r=>rw [q] at out;unfold yI at out;rw [if_neg hok] at out;exact out
 obtain ⟨i1,i2⟩:=ir F' σ' H' rel' (by rw [eO];exact rits) hok i
 by_cases hlt:i < I.xs.length
 ·obtain ⟨go,yl⟩:=i1 hlt
  refine .inr ⟨go,fun acc' σ3 H5=>H5 D=some (.lst acc')∧∃(F':Fr) (acc3:List V3),Rel κ F' σ3 H5∧F'.T=[]∧(∀a,some a∉F'.l)∧F'.Oi=Oi∧Reps κ F'.β Oi H5 I.its vs∧Reps κ F'.β Oi H5 acc3 acc'∧Ext No β1 H1 F'.β H5∧
   Out κ E (kE κ) (F.to β1 h1) σ H1 Q ((yI I.ok g c d (I.xs.drop (i+1)) acc3 F'.s F'.h).bind fun vs h2=> .ok (.m (.lst vs)) h2),fun acc' σ3 H5 n5=>⟨_,by omega,rfl,hlt,n5⟩,fun x H2 y=>?_⟩
  obtain ⟨x3,ex3,ey,ry,rp⟩:=yl x H2 y
  have hd:I.xs.drop i=x3::I.xs.drop (i+1):=by
   rw [List.drop_eq_getElem_cons hlt]
   congr 1
   rw [z4 hlt] at ex3
   exact Option.some.inj ex3
  rw [hd] at out
  unfold yI at out
  rw [if_pos hok] at out
  cases w:g x3 F'.s with
  | none=>simp only [w] at out;exact out.elim
  | some s1=>
   simp only [w] at out
   refine ⟨F',x3,s1,ry,ht,rp,w,fun F3 σ3 e3 b3 s3 h3 r3=>?_⟩
   have hl3: ∀a,some a∉F3.l:=fun a ha=>by
    rcases e3.lam a ha with z | z
    ·exact hl a z
    ·obtain ⟨k,hk⟩:=List.getElem?_of_mem ha
     obtain ⟨u,hu,_⟩:=r3.heap.trk a (.inr (.inl ha))
     rw [z] at hu;cases hu
   have hoi3:F3.Oi=Oi:=e3.oi.trans hoi
   have eO3:F3.O=Oi:=funext fun a=>propext ⟨sub0 F3 e3.tt hl3 hoi3 a,fun z=> .inr (.inr (by rw [hoi3];exact z))⟩
   refine ⟨F3,r3,?_⟩
   rw [s3,h3]
   cases q:c s1 F'.h with
   | no=>simp only [q] at out;exact out.elim
   | ex x h2=>simp only [q] at out;exact out.elim
   | ok cb h2=>
    simp only [q] at out
    rintro β4 cb' H4 e4 ⟨rfl,r4⟩
    have ex4:Ext No β1 H1 β4 H4:=(ex.trans0 ey).trans0 (by rw [b3] at e4;exact e4)
    have k4: ∀{x:List V3} {v:List V},Reps κ F'.β Oi H' x v→Reps κ β4 Oi H4 x v:=fun r=>(r.ext0 ey).ext0 (by rw [b3] at e4;exact e4)
    have hD2:H2 D=some (.lst acc):=(ey.keep D _ hacc (rel'.heap.off D ((hO D).mpr (.inl rfl))) fun z=>z).1
    have hD4:H4 D=some (.lst acc):=(e4.keep D _ hD2 (r3.heap.off D (by rw [eO3];exact .inl rfl)) fun z=>z).1
    cases cb' with
    | false=>rw [if_neg Bool.false_ne_true];exact ⟨hD4,F3.to β4 h2,acc3,r4,e3.tt,hl3,hoi3,k4 rits,k4 racc,ex4,by show Out _ _ _ _ _ _ _ ((yI I.ok g c d (I.xs.drop (i+1)) acc3 F3.s h2).bind _);rw [s3];exact out⟩
    | true=>
     rw [if_pos rfl]
     refine ⟨F3.to β4 h2,r4,?_⟩
     show Out κ E0 (kE κ) (F3.to β4 h2) σ3 H4 _ (d F3.s h2)
     rw [s3]
     cases q5:d s1 h2 with
     | no=>simp only [q5] at out;exact out.elim
     | ex x h5=>simp only [q5] at out;exact out.elim
     | ok r5 h5=>
      simp only [q5] at out
      intro β5 v5 H5 e5 p5
      cases z:r5.fz with
      | none=>simp only [z] at out;exact out.elim
      | some y5=>
       simp only [z] at out
       by_cases hsz:acc3.length < sizeLine
       ·rw [if_pos hsz] at out
        obtain ⟨r6,rep6⟩:=Post.fz p5 z
        have hD5:H5 D=some (.lst acc):=(e5.keep D _ hD4 (r4.heap.off D (.inr (.inr (by show F3.Oi D;rw [hoi3];exact .inl rfl)))) fun z=>z).1
        have ex6:Ext (fun a=>a=D) β5 H5 β5 (zg H5 D (.lst (acc++[v5]))):=zem ⟨_,hD5⟩
        have k6: ∀{x:List V3} {v:List V},Reps κ β5 Oi H5 x v→Reps κ β5 Oi (zg H5 D (.lst (acc++[v5]))) x v:=fun r=>r.ext ex6 (fun b hb=>by rw [hb];exact .inl rfl) fun _ _ _ n=>n
        have rep6:Rep κ β5 Oi H5 y5 v5:=by
         have e:((F3.to β4 h2).to β5 h5).O=Oi:=eO3
         have q:Rep κ β5 ((F3.to β4 h2).to β5 h5).O H5 y5 v5:=rep6
         rw [e] at q;exact q
        have k45: ∀{x:List V3} {v:List V},Reps κ β4 Oi H4 x v→Reps κ β5 Oi H5 x v:=fun r=>r.ext0 e5
        refine ⟨hD5,by rw [←racc.length];exact hsz,zI,(F3.to β4 h2).to β5 h5,acc3++[y5],Rel.wrOi r6 (by show F3.Oi D;rw [hoi3];exact .inl rfl),e3.tt,hl3,hoi3,k6 (k45 (k4 rits)),k6 ((k45 (k4 racc)).append (.cons rep6 .nil)),?_,?_⟩
        ·have e45:=ex4.trans0 e5
         refine ⟨fun a u ha hn _=>?_,e45.len,e45.bet,fun a u ha=>?_,e45.nwb⟩
         ·obtain ⟨q1,q2⟩:=e45.keep a u ha hn fun z=>z
          exact ⟨by rw [zl (fun z=>by subst z;rw [hD] at ha;cases ha)];exact q1,q2⟩
         ·obtain ⟨u',hu'⟩:=e45.there a u ha
          exact ex6.there a u' hu'
        ·show Out _ _ _ _ _ _ _ ((yI I.ok g c d (I.xs.drop (i+1)) (acc3++[y5]) F3.s h5).bind _)
         rw [s3];exact out
       ·rw [if_neg hsz] at out;exact out.elim
 ·have hi:i=I.xs.length:=by omega
  subst hi
  rw [List.drop_length] at out
  unfold yI at out
  rw [if_pos hok] at out
  refine .inl ⟨i2 (Nat.le_refl _),out F'.β (.ref D) H' ex ?_⟩
  have rh:RelH κ (fun a=>a=D∨(F.to β1 h1).O a) F'.β F'.h H':=rel'.heap.sub fun a ha=>(hO a).mpr ha
  refine ⟨D,rfl,Rel.nextNew (F:=F.to β1 h1) r1 ex rh hD,⟨acc,hacc,racc.sub fun a ha=>?_⟩,hD⟩
  rcases ha with z | z
  ·rcases List.mem_cons.mp z with z | z
   ·exact .inl z
   ·exact .inr (.inl z)
  ·exact .inr (.inr z)
theorem zs1 {elt tg iter:Expr} {ifs:List Expr} {loc free:List Str} {fr:List Nat} {scope:Scope} {it:I3} {g:G3} {c:T3} {d:E3} (hc:X.calm=true) (S:CompScope X loc free fr scope) (hi:PI X tg iter (tiOf κ E it))
 (hg: ∀cl C s H ex,PG (qg X (loc++free) scope cl C s H ex) tg (tgOf κ g)) (ht: ∀cl C s H ex,PTs (qg X (loc++free) scope cl C s H ex) ifs (zK κ E0 c)) (he: ∀cl C s H ex,PE (qg X (loc++free) scope cl C s H ex) elt (zf κ E0 d))
 (hs: ∀x,foldedSetIterable iter X.env x=pure x:=by intro _;rfl):PE X (.ListComp elt [⟨tg,iter,ifs,0⟩] scope pos) (zf κ E (zm7 loc.length fr it g c d)):=zZ (zrt hc S hi hg ht he hs) fun _ _ _ h=>zq2 h
end
section
variable {X:Cx} {κ:Kx} {E:XK} {F F':Fr} {σ σ':L2.St} {H H1 H':Hp} {Q:VK} {p:Addr} {e a b c o:Expr} {pos apos np cpos:Pos} {i:Nat} {D:Ends}
def eNeg (p:P3):E3:=fun s h=>(p s h).bind fun f h1=>match f with
 | .x (.int i)=> .ok (.v (.int (-i))) h1
 | _=> .no
theorem zh3 {d:P3} (ha:PE X a (zn κ E d)):PE X (.UnaryOp .USub a pos) (zf κ E (eNeg d)):=zZ (zvq zub ha) fun σ H Q ⟨F,rel,o⟩=>
 (zQ (K:=kP κ) zF rel o).mono fun v H1 ⟨β1,h1,f,e1,⟨r1,rf⟩,o1⟩=>by
  match f,rf,o1 with
  | .x (.int i),rf,o1=>
   cases (show Rep κ β1 F.O H1 (.int i) v from rf)
   exact ⟨i,rfl,o1 β1 _ H1 Ext.refl ⟨r1,.int _⟩⟩
def eChain (f g:F2) (a b c:P3):E3:=fun s h=>(a s h).bind fun x h1=>(b s h1).bind fun y h2=>match f s h2 x y with
 | some (.v (.bl true))=>(c s h2).bind fun z h3=>opt h3 (g s h3 y z)
 | some (.v (.bl false))=> .ok (.v (.bl false)) h2
 | _=> .no
theorem zoi {r r':R2} {f g:F2} {da db dc:P3} (hs:OpSim κ r f) (hs':OpSim κ r' g) (h:zf κ E (eChain f g da db dc) σ H Q):zp6 r r' (zn κ E da) (zn κ E db) (zn κ E dc) σ H Q:=by
 obtain ⟨F,rel,o⟩:=h
 refine (zQ (K:=kP κ) zF rel o).mono fun v H1 ⟨β1,h1,f1,e1,⟨r1,rf1⟩,o1⟩=>?_
 refine (zQ (F:=F.to β1 h1) (K:=kP κ) zF r1 o1).mono fun w H2 ⟨β2,h2,f2,e2,⟨r2,rf2⟩,o2⟩=>?_
 have rf1':=RfR.ext (F:=F.to β1 h1) (β':=β2) (h':=h2) r1 e2 rf1
 cases q:f F.s h2 f1 f2 with
 | none=>simp only [q] at o2;exact o2.elim
 | some z=>
  refine hs (F.to β2 h2) σ H2 f1 f2 z v w _ r2 rf1' rf2 q fun u H' e p=>?_
  match z,q,p with
  | .v (.bl true),q,p=>
   simp only [q] at o2
   cases (show Rep κ β2 F.O H' (.bl true) u from p.2)
   refine ⟨true,rfl,?_⟩
   rw [if_pos rfl]
   have o3:=Out.move (F:=F.to β2 h2) (h':=h2) zF e o2
   refine (zQ (F:=F.to β2 h2) (K:=kP κ) zF p.1 o3).mono fun w3 H3 ⟨β3,h3,f3,e3,⟨r3,rf3⟩,o4⟩=>?_
   obtain ⟨z',q',k⟩:=Out.opt (F:=F.to β3 h3) rfl o4
   exact hs' (F.to β3 h3) σ H3 f2 f3 z' w w3 Q r3 (RfR.ext (F:=F.to β2 h2) (β':=β3) (h':=h3) p.1 e3 (RfR.ext (F:=F.to β2 h2) (β':=β2) (h':=h2) r2 e rf2)) rf3 q' k
  | .v (.bl false),q,p=>
   simp only [q] at o2
   cases (show Rep κ β2 F.O H' (.bl false) u from p.2)
   refine ⟨false,rfl,?_⟩
   rw [if_neg Bool.false_ne_true]
   exact o2 β2 _ H' e ⟨p.1,.bl _⟩
  | .v .non,q,p=>simp only [q] at o2;exact o2.elim
  | .v (.int _),q,p=>simp only [q] at o2;exact o2.elim
  | .v (.str _),q,p=>simp only [q] at o2;exact o2.elim
  | .v (.ty _),q,p=>simp only [q] at o2;exact o2.elim
  | .v (.tup _),q,p=>simp only [q] at o2;exact o2.elim
  | .v (.lst _),q,p=>simp only [q] at o2;exact o2.elim
  | .v (.scr _),q,p=>simp only [q] at o2;exact o2.elim
  | .v (.dK _),q,p=>simp only [q] at o2;exact o2.elim
  | .v (.dT _),q,p=>simp only [q] at o2;exact o2.elim
  | .v (.obj _ _),q,p=>simp only [q] at o2;exact o2.elim
  | .v (.cls _),q,p=>simp only [q] at o2;exact o2.elim
  | .v (.fn _ _),q,p=>simp only [q] at o2;exact o2.elim
  | .v (.loc _),q,p=>simp only [q] at o2;exact o2.elim
  | .m _,q,p=>simp only [q] at o2;exact o2.elim
theorem zrg {op op':CmpOp} {r r':R2} {f g:F2} {da db dc:P3} (hs:OpSim κ r f) (hs':OpSim κ r' g) (ho:OpR X (compareOp op) r) (ho':OpR X (compareOp op') r') (ha:PE X a (zn κ E da)) (hb:PE X b (zn κ E db)) (hc:PE X c (zn κ E dc))
 (hm:lastMarks [op,op'] [b,c]=false:=by with_unfolding_all rfl):PE X (.Compare a [op,op'] [b,c] pos) (zf κ E (eChain f g da db dc)):=zZ (zow ho ho' ha hb hc hm) fun _ _ _ h=>zoi hs hs' h
abbrev Po3:=S3→H3→Res (Option Int)
def kO (κ:Kx):Kd (Option Int) (Option Int):=fun _ F σ H' i j=>j=i∧Rel κ F σ H'
theorem km_O:zhk (kO κ):=fun _ _ _ _ _ _ _ _ _ _ _ h=>h
abbrev toOf (κ:Kx) (E:XK) (d:Po3):TO:=tOf κ E (kO κ) d
def poN:Po3:=fun _ h=> .ok none h
def poS (p:P3):Po3:=fun s h=>(p s h).bind fun f h1=>match f with
 | .x (.int i)=> .ok (some i) h1
 | _=> .no
theorem POw {e:Option Expr} {t t':TO} (h:PO X e t) (w: ∀σ H Q,t' σ H Q→t σ H Q):PO X e t':=fun pins s σ H Q I q=>h pins s σ H Q I (w σ H Q q)
theorem zsx:PO X none (toOf κ E poN):=POw zqa fun σ H Q ⟨F,rel,o⟩=>o F.β none H Ext.refl ⟨rfl,rel⟩
theorem zt7 {d:P3} (ha:PE X a (zn κ E d)):PO X (some a) (toOf κ E (poS d)):=POw (zrm ha) fun σ H Q ⟨F,rel,o⟩=>
 (zQ (K:=kP κ) km_O rel o).mono fun v H1 ⟨β1,h1,f,e1,⟨r1,rf⟩,o1⟩=>by
  match f,rf,o1 with
  | .x (.int i),rf,o1=>
   cases (show Rep κ β1 F.O H1 (.int i) v from rf)
   exact ⟨i,rfl,o1 β1 _ H1 Ext.refl ⟨rfl,r1⟩⟩
def z9 {α:Type} (xs:List α) (lo hi:Option Int):List α:=(xs.drop (HT.sIx xs.length 0 lo)).take (HT.sIx xs.length xs.length hi - HT.sIx xs.length 0 lo)
def oSl (s:S3) (h:H3) (lo hi:Option Int):Rf→Option Vl
 | .x (.tup xs)=>if HT.sIx xs.length 0 lo=0∧HT.sIx xs.length xs.length hi=xs.length then none else some (.v (.tup (z9 xs lo hi)))
 | .x (.str z)=>if z.length≤sizeLine then some (.v (.str (Txt.slice z lo hi))) else none
 | f=>(rdl s h f).map fun xs=> .m (.lst (z9 xs lo hi))
def eSl (p:P3) (lo hi:Po3):E3:=fun s h=>(p s h).bind fun f h1=>(lo s h1).bind fun l h2=>(hi s h2).bind fun u h3=>opt h3 (oSl s h3 l u f)
theorem zjj {xs:List V3} {ys:List V} {lo hi:Option Int} (r:Reps κ F.β F.O H xs ys):Reps κ F.β F.O H (z9 xs lo hi) (cutV ys lo hi):=by
 unfold z9 cutV;rw [r.length];exact (r.drop _).take _
theorem r_sl {lo hi:Option Expr} {p2:Pos} {d:P3} {dl dh:Po3} (hK:X.K=κ.K) (he:PE X a (zn κ E d)) (hl:PO X lo (toOf κ E dl)) (hu:PO X hi (toOf κ E dh)):PE X (.Subscript a (.Slice lo hi none p2) pos) (zf κ E (eSl d dl dh)):=
 zZ (zo5 (sl_tup.or (sl_list.or zsz)) he hl hu) fun σ H Q ⟨F,rel,o⟩=>
 (zQ (K:=kP κ) zF rel o).mono fun v H1 ⟨β1,h1,f,e1,⟨r1,rf⟩,o1⟩=>
 (zQ (F:=F.to β1 h1) (K:=kO κ) zF r1 o1).mono fun l H2 ⟨β2,h2,l',e2,⟨el,r2⟩,o2⟩=>
 (zQ (F:=F.to β2 h2) (K:=kO κ) zF r2 o2).mono fun u H3 ⟨β3,h3,u',e3,⟨eu,r3⟩,o3⟩=>by
  subst el;subst eu
  obtain ⟨z,q,k⟩:=Out.opt (F:=F.to β3 h3) rfl o3
  have rf3:RfR κ (F.to β3 h3) H3 f v:=RfR.ext (F:=F.to β2 h2) (β':=β3) (h':=h3) r2 e3 (RfR.ext (F:=F.to β1 h1) (β':=β2) (h':=h2) r1 e2 rf)
  rw [hK]
  have lists:(rdl F.s h3 f).map (fun xs=>Vl.m (.lst (z9 xs l u)))=some z→rSlL κ.K v l u H3 Q:=fun q=>by
   cases q1:rdl F.s h3 f with
   | none=>rw [q1] at q;cases q
   | some xs=>
    rw [q1] at q;cases q
    obtain ⟨c,ys,rfl,sq,rs⟩:=ze4 (F:=F.to β3 h3) r3 rf3 q1
    exact ⟨c,ys,rfl,sq,fun p hp=>k _ _ (yv hp) (Post.lst r3 hp (zjj rs))⟩
  match f,rf3,q,lists with
  | .s i,rf3,q,lists=>exact .inr (.inl (lists q))
  | .x (.lst _),rf3,q,lists=>exact .inr (.inl (lists q))
  | .x (.scr _),rf3,q,lists=>exact .inr (.inl (lists q))
  | .x (.loc _),rf3,q,lists=>exact .inr (.inl (lists q))
  | .x (.tup xs),rf3,q,lists=>
   have q:(if HT.sIx xs.length 0 l=0∧HT.sIx xs.length xs.length u=xs.length then none else some (Vl.v (.tup (z9 xs l u))))=some z:=q
   by_cases hw:HT.sIx xs.length 0 l=0∧HT.sIx xs.length xs.length u=xs.length
   ·rw [if_pos hw] at q;cases q
   ·rw [if_neg hw] at q;cases q
    cases (show Rep κ β3 F.O H3 (.tup xs) v from rf3) with
    | tup h1 h2 h3' h4=>exact .inl ⟨_,_,rfl,.of h1,by rw [←h4.length];exact hw,fun p hp=>k _ _ (yv hp) (Post.tup r3 hp (zjj (F:=F.to β3 h3) h4))⟩
  | .x (.str zz),rf3,q,lists=>
   obtain ⟨hz,rfl⟩:=qd q
   cases (show Rep κ β3 F.O H3 (.str zz) v from rf3)
   exact .inr (.inr ⟨zz,rfl,hz,k _ H3 Ext.refl ⟨r3,.str _⟩⟩)
def wr3 (s:S3) (h:H3) (c:C3):Rf→Option (S3×H3)
 | .s i=>some (s.set i (some (.m c)),h)
 | .x (.loc n)=>some (s,h.set n c)
 | _=>none
theorem Rel.wrSlot {l:Addr} {c0 c':C3} {u:HO} (rel:Rel κ F σ H) (hl:F.l[i]? =some (some l)) (hs:F.s[i]? =some (some (.m c0))) (hc:CellR κ F.β F.O (zg H l u) c' l):
  Rel κ {F with s:=F.s.set i (some (.m c'))} σ (zg H l u):=by
 have hO:F.O l:= .inr (.inl (List.mem_of_getElem? hl))
 have ex:=zem (β:=F.β) (o:=u) (rel.heap.trk' l hO)
 refine ⟨rel.heap.wrO hO hc.nt,?_,?_,rel.linj,rel.lt,rel.lo,rel.to,rel.tn,fun j y hj=>?_⟩
 ·show (F.s.set i _).length=_;rw [List.length_set];exact rel.slen
 ·show F.l.length=(F.s.set i _).length;rw [List.length_set];exact rel.llen
 ·rcases qi hj with ⟨e1,e2⟩ | ⟨n,z⟩
  ·subst e1;cases e2
   obtain ⟨v,h1,a,h2,h3,_⟩:=rel.slot i _ hs
   rw [hl] at h2;cases h2
   exact ⟨v,h1,l,hl,h3,hc⟩
  ·obtain ⟨v,h1,h2⟩:=rel.slot j y z
   refine ⟨v,h1,?_⟩
   cases y with
   | v x=>exact Rep.ext ex (fun b hb=>by rw [hb];exact hO) (fun _ _ _ n=>n) h2
   | m c=>
    obtain ⟨a,a1,a2,a3⟩:=h2
    refine ⟨a,a1,a2,a3.ext ex (fun b hb=>by rw [hb];exact hO) (fun _ _ _ n=>n) fun w hw=>?_⟩
    rw [zl (fun z=>by subst z;exact n (rel.linj i j a hl a1))];exact hw
theorem zg0 {β:List (Option Addr)} {l:Addr} {o:HO} {n:Nat} (hb:β[n]? =some (some l)) (ho: ∃u,H l=some u):Ext No β H β (zg H l o):=
 ⟨fun a u ha hn _=>⟨by rw [zl (fun z=>by subst z;exact hn (List.mem_of_getElem? hb))];exact ha,hn⟩,Nat.le_refl _,fun _ _ _ h=>h,fun a u ha=>by
  by_cases z:a=l
  ·subst z;exact ⟨o,zI⟩
  ·exact ⟨u,by rw [zl z];exact ha⟩,nwb0⟩
theorem RelH.wrLoc {O:Addr→Prop} {β:List (Option Addr)} {h:H3} {l:Addr} {n:Nat} {c':C3} {u:HO} (r:RelH κ O β h H) (hb:β[n]? =some (some l)) (hc:CellR κ β O (zg H l u) c' l):RelH κ O β (h.set n c') (zg H l u):=by
 have ex:=zg0 (o:=u) hb (r.btr' n l hb)
 have th: ∀a w,H a=some w→(∀ys,w≠HO.tup ys)→∃w,zg H l u a=some w∧∀ys,w≠HO.tup ys:=fun a w q n=>by
  by_cases z:a=l
  ·subst z;exact ⟨u,zI,hc.nt⟩
  ·exact ⟨w,by rw [zl z];exact q,n⟩
 refine ⟨by rw [List.length_set];exact r.len,r.inj,r.off,fun a ha=>let ⟨w,q,n⟩:=r.trk a ha;th a w q n,fun i a q=>let ⟨w,z,n⟩:=r.btr i a q;th a w z n,fun i c hi=>?_⟩
 rcases qi hi with ⟨e1,e2⟩ | ⟨ne,z⟩
 ·subst e1;subst e2;exact .inr ⟨l,hb,hc⟩
 ·refine (r.cell i c z).imp id fun ⟨a,ha,q⟩=>⟨a,ha,q.ext ex (fun _ z=>z.elim) (fun _ _ _ n=>n) fun w hw=>?_⟩
  rw [zl (fun z=>by subst z;exact ne (r.inj n i a hb ha))];exact hw
theorem zj6 {f:Rf} {v:V} {xs ys:List V3} {s':S3} {h':H3} (ht:F.T=[]) (rel:Rel κ F σ H) (r:RfR κ F H f v) (e:rdm F.s F.h f=some xs) (hw:wr3 F.s F.h (.lst ys) f=some (s',h')):
  ∃l us,v= .ref l∧H l=some (.lst us)∧Reps κ F.β F.O H xs us∧∀ws,Reps κ F.β F.O H ys ws→∃F',SExt F H F' (zg H l (.lst ws))∧F'.s=s'∧F'.h=h'∧Rel κ F' σ (zg H l (.lst ws)):=by
 cases f with
 | s i=>
  cases hw
  obtain ⟨a,c,h1,h2,h3,h4⟩:=r
  have e:rdl F.s F.h (.s i)=some xs:=e
  simp only [rdl,h3] at e
  cases c <;> simp at e
  subst e
  obtain ⟨us,h5,h6⟩:=h4
  have hO:F.O a:= .inr (.inl (List.mem_of_getElem? h1))
  refine ⟨a,us,h2,h5,h6,fun ws hr=>⟨{F with s:=F.s.set i (some (.m (.lst ys)))},⟨⟨fun b u hb hn m=>⟨by rw [zl (fun z=>by subst z;exact m (List.mem_of_getElem? h1))];exact hb,hn⟩,Nat.le_refl _,fun _ _ _ h=>h,(zem (β:=F.β) ⟨_,h5⟩).there,nwb0⟩,fun _ h=> .inl h,rfl,ht⟩,rfl,rfl,rel.wrSlot h1 h3 ⟨ws,zI,hr.ext (zem (β:=F.β) ⟨_,h5⟩) (fun b hb=>by rw [hb];exact hO) fun _ _ _ n=>n⟩⟩⟩
 | x y=>
  cases y <;> simp [wr3] at hw
  case loc n=>
   obtain ⟨rfl,rfl⟩:=hw
   cases r with
   | loc h1 h2=>
    have e:rdl F.s F.h (.x (.loc n))=some xs:=e
    simp only [rdl] at e
    cases q:F.h[n]? with
    | none=>rw [q] at e;cases e
    | some c=>
     rw [q] at e
     cases c <;> simp at e
     subst e
     rcases rel.heap.cell n _ q with z | ⟨a,ha,us,h5,h6⟩
     ·cases z
     ·have ex:=fun o=>zg0 (o:=o) ha ⟨_,h5⟩
      refine ⟨a,us,h2 a ha,h5,h6,fun ws hr=>⟨F.to F.β (F.h.set n (.lst ys)),SExt.of0 ht (ex _),rfl,rfl,rel.next (ex _) (rel.heap.wrLoc ha ⟨ws,zI,hr.ext0 (ex _)⟩)⟩⟩
abbrev FM:=List V3→List V3→Option (List V3×V3)
def mtO (op:FM) (p:P3) (a:A3) (k:S3→H3→V3→O3):D3:=fun s h=>(p s h).bindS fun f h1=>match rdm s h1 f with
 | none=> .no
 | some _=>(a s h1).bindS fun fs h2=>match vals3 fs,rdm s h2 f with
  | some vs,some xs=>match op xs vs with
   | some (ys,r)=>match wr3 s h2 (.lst ys) f with
    | some (s3,h3)=>k s3 h3 r
    | none=> .no
   | none=> .no
  | _,_=> .no
def sMt (op:FM) (p:P3) (a:A3):D3:=mtO op p a fun s h _=> .nx s h
def zi2 (κ:Kx) (r:V→List V→Hp→VK→Prop) (op:FM):Prop:=∀(β:List (Option Addr)) (O:Addr→Prop) (H:Hp) (l:Addr) (xs ys vs:List V3) (us ws:List V) (rt:V3) (Q:VK),H l=some (.lst us)→Reps κ β O H xs us→Reps κ β O H vs ws→op xs vs=some (ys,rt)→
 (∀us' rt',Reps κ β O H ys us'→Rep κ β O H rt rt'→Q rt' (zg H l (.lst us')))→r (.ref l) ws H Q
theorem zp1 {r:V→List V→Hp→VK→Prop} {op:FM} {dp:P3} {da:A3} {k:S3→H3→V3→O3} (hs:zi2 κ r op) (rel:Rel κ F σ H) (ht:F.T=[]) (o:SOut κ E F H D (mtO op dp da k F.s F.h)) {Q:VK}
  (hQ: ∀F' rt Fm Hm v H3,SExt Fm Hm F' H3→F'.s.length=F.s.length→Rel κ F' σ H3→Rep κ F'.β F'.O H3 rt v→SOut κ E Fm Hm D (k F'.s F'.h rt)→Q v H3):
  tBM κ.K "list" r (zn κ E dp) (zy κ E da) σ H Q:=by
 refine (bindS (K:=kP κ) rel ht o).mono fun v H1 ⟨β1,h1,f,e1,⟨r1,rf⟩,o1⟩=>?_
 cases q:rdm F.s h1 f with
 | none=>simp only [q] at o1;exact o1.elim
 | some xs0=>
  simp only [q] at o1
  obtain ⟨a,ys,rfl,ha,_⟩:=ze1 (F:=F.to β1 h1) r1 rf q
  refine ⟨.inl ⟨rfl,ys,.of ha⟩,?_⟩
  have s1:SExt F H (F.to β1 h1) H1:=SExt.of0 ht e1
  refine (bindS (F:=F.to β1 h1) (K:=kA κ) r1 ht (SOut.move s1 o1)).mono fun ws H2 ⟨β2,h2,fs,e2,⟨r2,rfs⟩,o2⟩=>?_
  have rf2:=RfR.ext (F:=F.to β1 h1) (β':=β2) (h':=h2) r1 e2 rf
  have s2:SExt (F.to β1 h1) H1 (F.to β2 h2) H2:=SExt.of0 (F:=F.to β1 h1) ht e2
  cases q1:vals3 fs with
  | none=>simp only [q1] at o2;exact o2.elim
  | some vs=>
   cases q2:rdm F.s h2 f with
   | none=>simp only [q1,q2] at o2;exact o2.elim
   | some xs=>
    simp only [q1,q2] at o2
    cases q3:op xs vs with
    | none=>simp only [q3] at o2;exact o2.elim
    | some w=>
     obtain ⟨zs,rt⟩:=w
     simp only [q3] at o2
     cases q4:wr3 F.s h2 (.lst zs) f with
     | none=>simp only [q4] at o2;exact o2.elim
     | some w=>
      obtain ⟨s3,h3⟩:=w
      simp only [q4] at o2
      obtain ⟨l,us,ev,hl,rs,wk⟩:=zj6 (F:=F.to β2 h2) ht r2 rf2 q2 q4
      cases ev
      refine hs β2 F.O H2 a xs zs vs us ws rt _ hl rs (zbr rfs q1) q3 fun us' rt' r1' r2'=>?_
      obtain ⟨F',e',es,eh,rel'⟩:=wk us' r1'
      refine hQ F' rt (F.to β2 h2) H2 _ _ e' (by rw [rel'.slen,←rel.slen]) rel' (Rep.sext (F:=F.to β2 h2) e' r2') ?_
      rw [es,eh]
      exact SOut.move s2 o2
theorem zl2 {es:List Expr} {name:Str} {id:String} {r:V→List V→Hp→VK→Prop} {op:FM} {dp:P3} {da:A3} (hs:zi2 κ r op) (hK:X.K=κ.K) (slot:Slot "list" name id) (hty:typeOf (.builtin id)=pure (.type "method_descriptor")) (hm:MtR X id r) (ho:PE X o (zn κ E dp)) (ha:PA X (e::es) (zy κ E da))
  (hbase:attributeBase o name X.env (eval o X.env)=eval o X.env:=by rfl)
  (hfew:((backTo cpos (starEach (e::es) X.env)).all (fun x=> !x.1) && (backToKw cpos (keywordEach [] X.env)).all (fun x=>x.1.isSome)
   && decide ((e::es).length+([]:List Keyword).length+(if ([]:List Keyword).isEmpty then 0 else 1) < 30))=true:=by rfl)
  (hline:(apos.endLine==cpos.line)=true:=by rfl) (hst:starEach (e::es) X.env=(false,eval e X.env)::starEach es X.env:=by rfl) (hplain:(backTo cpos (starEach es X.env)).any (·.1)=false:=by rfl)
  (hsw:swapsWith (.Call (.Attribute o name apos) (e::es) [] cpos) none pos.line X.env=pure false:=by rfl):
  PS X (.Expr (.Call (.Attribute o name apos) (e::es) [] cpos) pos) (zq κ E (sMt op dp da)):=qc (znl (zvm PySem.F.plainAttrs_list slot hty hm ho ha hbase hfew hline hst hplain) hsw) fun D σ H ⟨F,rel,ht,o⟩=>by
 rw [hK]
 exact zp1 hs rel ht o fun F' rt Fm Hm v H3 e' _ rel' _ o'=>o' F' σ H3 e' rfl rfl rel'
theorem zs7 {name:Str} {id:String} {r:V→List V→Hp→VK→Prop} {op:FM} {dp:P3} (hs:zi2 κ r op) (hK:X.K=κ.K) (slot:Slot "list" name id) (hty:typeOf (.builtin id)=pure (.type "method_descriptor")) (hm:MtR X id r) (ho:PE X o (zn κ E dp))
  (hbase:attributeBase o name X.env (eval o X.env)=eval o X.env:=by rfl) (hline:(apos.endLine==cpos.line)=true:=by rfl) (hsw:swapsWith (.Call (.Attribute o name apos) [] [] cpos) none pos.line X.env=pure false:=by rfl):
  PS X (.Expr (.Call (.Attribute o name apos) [] [] cpos) pos) (zq κ E (sMt op dp aNil)):=qc (znl (zpz PySem.F.plainAttrs_list slot hty hm ho hbase hline) hsw) fun D σ H ⟨F,rel,ht,o⟩=>by
 rw [hK]
 refine tOf.mono (zp1 (Q:=fun _ H1=>D.nx σ H1) hs rel ht o fun F' rt Fm Hm v H3 e' _ rel' _ o'=>o' F' σ H3 e' rfl rfl rel') fun x H1 ⟨h1,F1,r1,h2⟩=>⟨h1,h2 F1.β [] H1 Ext.refl ⟨r1,.nil⟩⟩
def yD:FM:=fun xs vs=>match vs with
 | [y]=>if xs.length < sizeLine then some (xs++[y],.non) else none
 | _=>none
theorem zc1:zi2 κ zlj yD:=fun β O H l xs ys vs us ws rt Q hl rx rv e k=>by
 unfold yD at e
 split at e
 ·obtain ⟨h,e⟩:=qd e
  cases e
  cases rv with
  | cons a t=>cases t;exact ⟨l,us,_,rfl,rfl,hl,by rw [←rx.length];exact h,k _ _ (rx.append (.cons a .nil)) .non⟩
 ·cases e
def mPop:FM:=fun xs vs=>match vs with
 | []=>match xs[xs.length - 1]? with
  | some y=>some (xs.dropLast,y)
  | none=>none
 | _=>none
theorem zps:zi2 κ rPop mPop:=fun β O H l xs ys vs us ws rt Q hl rx rv e k=>by
 unfold mPop at e
 split at e
 ·cases rv
  cases q:xs[xs.length - 1]? with
  | none=>rw [q] at e;cases e
  | some y=>
   rw [q] at e;cases e
   obtain ⟨u,hu,ru⟩:=rx.get q
   exact ⟨l,us,u,rfl,rfl,hl,by rw [←rx.length];exact hu,k _ _ rx.dropLast ru⟩
 ·cases e
end
section
variable {X:Cx} {κ:Kx} {E:XK} {F F':Fr} {σ σ':L2.St} {H H1 H':Hp} {Q:VK} {p:Addr} {e a b c o:Expr} {pos apos np cpos:Pos} {i:Nat} {D:Ends}
def zj1 (p i:P3) (e:E3):D3:=fun s h=>(e s h).bindS fun r h1=>match r.fz with
 | none=> .no
 | some y=>(p s h1).bindS fun f h2=>(i s h2).bindS fun j h3=>match j,rdm s h3 f with
  | .x (.int k),some xs=>match yM xs.length k with
   | some n=>match wr3 s h3 (.lst (xs.set n y)) f with
    | some (s',h')=> .nx s' h'
    | none=> .no
   | none=> .no
  | _,_=> .no
theorem zn0 {dp di:P3} {d:E3} (h:zq κ E (zj1 dp di d) D σ H):tAsg (zf κ E d) (gSub (zn κ E dp) (zn κ E di) zqv) D σ H:=by
 obtain ⟨F,rel,ht,o⟩:=h
 refine (bindS (K:=kE κ) rel ht o).mono fun v H1 ⟨β1,h1,r,e1,p1,o1⟩=>?_
 cases z:r.fz with
 | none=>simp only [z] at o1;exact o1.elim
 | some y=>
  simp only [z] at o1
  obtain ⟨r1,ry⟩:=Post.fz p1 z
  have s1:SExt F H (F.to β1 h1) H1:=SExt.of0 ht e1
  refine (bindS (F:=F.to β1 h1) (K:=kP κ) r1 ht (SOut.move s1 o1)).mono fun ov H2 ⟨β2,h2,f,e2,⟨r2,rf⟩,o2⟩=>?_
  have s2:SExt (F.to β1 h1) H1 (F.to β2 h2) H2:=SExt.of0 (F:=F.to β1 h1) ht e2
  refine (bindS (F:=F.to β2 h2) (K:=kP κ) r2 ht (SOut.move s2 o2)).mono fun iv H3 ⟨β3,h3,j,e3,⟨r3,rj⟩,o3⟩=>?_
  have s3:SExt (F.to β2 h2) H2 (F.to β3 h3) H3:=SExt.of0 (F:=F.to β2 h2) ht e3
  have rf3:=RfR.ext (F:=F.to β2 h2) (β':=β3) (h':=h3) r2 e3 rf
  have ry3:Rep κ β3 F.O H3 y v:=(Rep.ext0 e3 (Rep.ext0 e2 ry))
  match j,rj,o3 with
  | .s _,rj,o3=>exact o3.elim
  | .x (.int k),rj,o3=>
   cases q:rdm F.s h3 f with
   | none=>simp only [q] at o3;exact o3.elim
   | some xs=>
    simp only [q] at o3
    cases q2:yM xs.length k with
    | none=>simp only [q2] at o3;exact o3.elim
    | some n=>
     simp only [q2] at o3
     cases q3:wr3 F.s h3 (.lst (xs.set n y)) f with
     | none=>simp only [q3] at o3;exact o3.elim
     | some w=>
      obtain ⟨s',h'⟩:=w
      simp only [q3] at o3
      obtain ⟨l,us,ev,hl,rs,wk⟩:=zj6 (F:=F.to β3 h3) ht r3 rf3 q q3
      subst ev
      cases (show Rep κ β3 F.O H3 (.int k) iv from rj)
      obtain ⟨F',e',es,eh,rel'⟩:=wk (us.set n v) (rs.set ry3 n)
      exact ⟨l,us,k,n,rfl,rfl,hl,by rw [←rs.length];exact q2,SOut.move s3 o3 F' σ _ e' es eh rel'⟩
theorem znr {tp:Pos} {ii:Expr} {dp di:P3} {d:E3} (he:PE X e (zf κ E d)) (ho:PE X o (zn κ E dp)) (hi:PE X ii (zn κ E di))
 (hh: ∀{te to ti:TE},PE X e te→PE X o to→PE X ii ti→PS X (.Assign [.Subscript o ii tp] e pos) (tAsg te (gSub to ti zqv))):PS X (.Assign [.Subscript o ii tp] e pos) (zq κ E (zj1 dp di d)):=qc (hh he ho hi) fun D σ H h=>zn0 h
def yL (h:H3):Rf→Option (Str×List (Str×V3))
 | .x (.obj c fs)=>some (c,fs)
 | .x (.loc n)=>match h[n]? with
  | some (.ins c fs)=>some (c,fs)
  | _=>none
 | _=>none
theorem zjy {f:Rf} {v:V} {c:Str} {fs:List (Str×V3)} (rel:Rel κ F σ H) (r:RfR κ F H f v) (e:yL F.h f=some (c,fs)): ∃a C dx gs,v= .ref a∧κ.cl c=some C∧H a=some (.ins C dx gs)∧RepP κ F.β F.O H fs gs:=by
 cases f with
 | s i=>cases e
 | x y=>
  cases y <;> simp [yL] at e
  case obj c' fs'=>
   obtain ⟨rfl,rfl⟩:=e
   cases (show Rep κ F.β F.O H (.obj c' fs') v from r) with
   | obj h1 h2 h3 h4 h5=>exact ⟨_,_,_,_,rfl,h1,h2,h5⟩
  case loc n=>
   cases (show Rep κ F.β F.O H (.loc n) v from r) with
   | loc h1 h2=>
    cases q:F.h[n]? with
    | none=>rw [q] at e;cases e
    | some c0=>
     rw [q] at e
     cases c0 <;> simp at e
     obtain ⟨rfl,rfl⟩:=e
     rcases rel.heap.cell n _ q with z | ⟨a,ha,C,dx,gs,k1,k2,k3⟩
     ·cases z
     ·exact ⟨a,C,dx,gs,h2 a ha,k1,k2,k3⟩
def Flds (X:Cx) (κ:Kx) (cs:List Str) (f:Str):Prop:=∀c∈cs,∀C,κ.cl c=some C→Cls X.K C∧NoAttr X.K C f
theorem Flds.nil {f:Str}:Flds X κ [] f:=fun c hc=>by cases hc
def ya (cs:List Str) (fl:Str) (p:P3):E3:=fun s h=>(p s h).bind fun f h1=>match yL h1 f with
 | some (c,fs)=>if c∈cs then match fs.lookup fl with
   | some x=> .ok (.v x) h1
   | none=> .no
  else .no
 | none=> .no
theorem zkv {fl:Str} {cs:List Str} {d:P3} (hf:Flds X κ cs fl) (he:PE X e (zn κ E d)) (hb:attributeBase e fl X.env (eval e X.env)=eval e X.env:=by rfl):PE X (.Attribute e fl pos) (zf κ E (ya cs fl d)):=zZ (zr5 he hb) fun σ H Q ⟨F,rel,o⟩=>
 (zQ (K:=kP κ) zF rel o).mono fun v H1 ⟨β1,h1,f,e1,⟨r1,rf⟩,o1⟩=>by
  cases q:yL h1 f with
  | none=>simp only [q] at o1;exact o1.elim
  | some w=>
   obtain ⟨c,fs⟩:=w
   simp only [q] at o1
   by_cases hc:c∈cs
   ·rw [if_pos hc] at o1
    cases q2:fs.lookup fl with
    | none=>simp only [q2] at o1;exact o1.elim
    | some x=>
     simp only [q2] at o1
     obtain ⟨a,C,dx,gs,rfl,k1,k2,k3⟩:=zjy (F:=F.to β1 h1) r1 rf q
     obtain ⟨y,hy,ry⟩:=k3.lookup q2
     exact ⟨a,C,dx,gs,y,rfl,k2,(hf c hc C k1).1,(hf c hc C k1).2,hy,o1 β1 y H1 Ext.refl ⟨r1,ry⟩⟩
   ·rw [if_neg hc] at o1;exact o1.elim
def zkk (f:Str) (v:V3):List (Str×V3)→List (Str×V3)
 | []=>[(f,v)]
 | (g,x)::r=>if g=f then (g,v)::r else (g,x)::zkk f v r
theorem RepP.putF {β:List (Option Addr)} {O:Addr→Prop} {f:Str} {x:V3} {y:V} (r:Rep κ β O H x y): ∀{fs:List (Str×V3)} {gs:List (Str×V)},RepP κ β O H fs gs→RepP κ β O H (zkk f x fs) (L2.putF f y gs)
 | _,_,.nil=> .cons r .nil
 | _,_,.cons (k:=k) q t=>by
  unfold zkk L2.putF
  by_cases h:k=f
  ·rw [if_pos h,if_pos h];exact .cons r t
  ·rw [if_neg h,if_neg h];exact .cons q (RepP.putF r t)
def zpd (cs:List Str) (fl:Str) (p:P3) (e:E3):D3:=fun s h=>(e s h).bindS fun r h1=>match r.fz with
 | none=> .no
 | some y=>(p s h1).bindS fun f h2=>match f with
  | .x (.loc n)=>match h2[n]? with
   | some (.ins c fs)=>if c∈cs∧fs.length < 1000 then .nx s (h2.set n (.ins c (zkk fl y fs))) else .no
   | _=> .no
  | _=> .no
theorem zpo {fl:Str} {pos':Pos} {cs:List Str} {dp:P3} {d:E3} {value:Expr} (hf:Flds X κ cs fl) (ha:PE X o (zn κ E dp)) (hv:PE X value (zf κ E d)) (hs:swapsWith value (some (.Attribute o fl pos')) pos.line X.env=pure false:=by rfl):PS X (.Assign [.Attribute o fl pos'] value pos) (zq κ E (zpd cs fl dp d)):=qc (zr7 ha hv hs) fun D σ H ⟨F,rel,ht,o⟩=>by
 refine (bindS (K:=kE κ) rel ht o).mono fun v H1 ⟨β1,h1,r,e1,p1,o1⟩=>?_
 cases z:r.fz with
 | none=>simp only [z] at o1;exact o1.elim
 | some y=>
  simp only [z] at o1
  obtain ⟨r1,ry⟩:=Post.fz p1 z
  have s1:SExt F H (F.to β1 h1) H1:=SExt.of0 ht e1
  refine (bindS (F:=F.to β1 h1) (K:=kP κ) r1 ht (SOut.move s1 o1)).mono fun ov H2 ⟨β2,h2,f,e2,⟨r2,rf⟩,o2⟩=>?_
  have s2:SExt (F.to β1 h1) H1 (F.to β2 h2) H2:=SExt.of0 (F:=F.to β1 h1) ht e2
  have ry2:Rep κ β2 F.O H2 y v:=Rep.ext0 e2 ry
  match f,rf,o2 with
  | .x (.loc n),rf,o2=>
   cases q:h2[n]? with
   | none=>simp only [q] at o2;exact o2.elim
   | some c0=>
    match c0,q,o2 with
    | .ins c fs,q,o2=>
     simp only [q] at o2
     by_cases hc:c∈cs∧fs.length < 1000
     ·rw [if_pos hc] at o2
      cases (show Rep κ β2 F.O H2 (.loc n) ov from rf) with
      | loc l1 l2=>
       rcases r2.heap.cell n _ q with w | ⟨a,ha,C,dx,gs,k1,k2,k3⟩
       ·cases w
       ·have ev:=l2 a ha
        subst ev
        have ex:=fun o=>zg0 (H:=H2) (β:=β2) (o:=o) ha ⟨_,k2⟩
        refine ⟨a,C,dx,gs,rfl,k2,(hf c hc.1 C k1).1,(hf c hc.1 C k1).2,by rw [←k3.length];exact hc.2,?_⟩
        refine SOut.move s2 o2 (F.to β2 (h2.set n (.ins c (zkk fl y fs)))) σ _ (SExt.of0 (F:=F.to β2 h2) ht (ex _)) rfl rfl ?_
        exact Rel.next (F:=F.to β2 h2) r2 (ex _) (r2.heap.wrLoc ha ⟨C,dx,_,k1,zI,(RepP.putF ry2 k3).ext0 (ex _)⟩)
     ·rw [if_neg hc] at o2;exact o2.elim
    | .lst _,q,o2=>simp only [q] at o2;exact o2.elim
    | .dK _,q,o2=>simp only [q] at o2;exact o2.elim
    | .dT _,q,o2=>simp only [q] at o2;exact o2.elim
    | .dead,q,o2=>simp only [q] at o2;exact o2.elim
    | .tab,q,o2=>simp only [q] at o2;exact o2.elim
def y6 (c m:Str) (f:F3) (p:P3) (a:A3):E3:=fun s h=>(p s h).bind fun g h1=>match g,yL h1 g with
 | .x x,some (c',fs)=>if c'=c∧fs.lookup m=none then (a s h1).bind fun gs h2=>match vals3 gs with
   | some vs=>f (x::vs) h2
   | none=> .no
  else .no
 | _,_=> .no
theorem zlo {C:Addr} {c m:Str} {f:F3} {dp:P3} {t:A3} {k:Nat} (hC:κ.cl c=some C) (hf:zp f k) (h:zf κ E (y6 c m f dp t) σ H Q):zq7 C m (zk κ k f) [] E (zn κ E dp) (zy κ E t) σ H Q:=by
 obtain ⟨F,rel,o⟩:=h
 refine (zQ (K:=kP κ) zF rel o).mono fun v H1 ⟨β1,h1,g,e1,⟨r1,rf⟩,o1⟩=>?_
 match g,rf,o1 with
 | .s i,rf,o1=>exact o1.elim
 | .x x,rf,o1=>
  cases q:yL h1 (.x x) with
  | none=>simp only [q] at o1;exact o1.elim
  | some w=>
   obtain ⟨c',fs⟩:=w
   simp only [q] at o1
   by_cases hc:c'=c∧fs.lookup m=none
   ·rw [if_pos hc] at o1
    obtain ⟨a,C',dx,gs,rfl,k1,k2,k3⟩:=zjy (F:=F.to β1 h1) r1 rf q
    rw [hc.1,hC] at k1;cases k1
    refine ⟨a,dx,gs,rfl,k2,k3.lookup_none hc.2,?_⟩
    refine (zQ (F:=F.to β1 h1) (K:=kA κ) zF r1 o1).mono fun vs H2 ⟨β2,h2,fs2,e2,⟨r2,rf2⟩,o2⟩=>?_
    cases q2:vals3 fs2 with
    | none=>simp only [q2] at o2;exact o2.elim
    | some xs=>
     simp only [q2] at o2
     have hr:=zbr rf2 q2
     have rx:Rep κ β2 F.O H2 x (.ref a):=Rep.ext0 e2 rf
     rw [List.append_nil]
     refine ⟨F.O,β2,x::xs,h2,?_,r2.heap,.cons rx hr,FOut.of (F:=F.to β2 h2) r2 o2⟩
     refine Classical.byContradiction fun n=>?_
     rw [hf (x::xs) h2 (by rw [List.length_cons,hr.length];exact n)] at o2
     exact o2
   ·rw [if_neg hc] at o1;exact o1.elim
theorem zlv {C fa:Addr} {c m:Str} {es:List Expr} {f:F3} {dp:P3} {t:A3} {k:Nat} {fd:FuncData} {ps:List Str} {n:Nat} {pl:Sem Bool} (hC:κ.cl c=some C) (hf:zp f n) (he:PE X o (zn κ E dp)) (cl:Cls X.K C) (hm:Meth X.K C m fa) (Fk:FnOk X.prog X.w X.K X.mg X.base (XT X.prog X.w) k fa fd ps (zk κ n f)) (hr:Room k X.A) (hb:Binds X.K fd ps []) (hx:yO (XT X.prog X.w) X E)
 (ha:PA X (e::es) (zy κ E t)) (hst:starEach (e::es) X.env=(false,eval e X.env)::starEach es X.env:=by rfl) (hpl:(backTo pos (starEach es X.env)).any (·.1)=false:=by rfl)
 (ht:eval (.Call (.Attribute o m apos) (e::es) [] pos) X.env=(do
  let ov ←eval o X.env
  standAt apos.atName
  let (f,first) ←holding [ov] (getMethod ov m pl)
  callWith pos f first (backTo pos (starEach (e::es) X.env)) (backToKw pos (keywordEach [] X.env))):=by rfl):
 PE X (.Call (.Attribute o m apos) (e::es) [] pos) (zf κ E (y6 c m f dp t)):=zZ (zqk he cl hm Fk hr hb .nil hx ha hst hpl ht) fun _ _ _ h=>zlo hC hf h
theorem ziy {C fa:Addr} {c m:Str} {f:F3} {dp:P3} {k:Nat} {fd:FuncData} {ps:List Str} {n:Nat} {pl:Sem Bool} (hC:κ.cl c=some C) (hf:zp f n) (he:PE X o (zn κ E dp)) (cl:Cls X.K C) (hm:Meth X.K C m fa) (Fk:FnOk X.prog X.w X.K X.mg X.base (XT X.prog X.w) k fa fd ps (zk κ n f)) (hr:Room k X.A) (hb:Binds X.K fd ps []) (hx:yO (XT X.prog X.w) X E)
  (ht:eval (.Call (.Attribute o m apos) [] [] pos) X.env=(do
   let ov ←eval o X.env
   standAt apos.atName
   let (f,first) ←holding [ov] (getMethod ov m pl)
   callWith pos f first (backTo pos (starEach [] X.env)) (backToKw pos (keywordEach [] X.env))):=by rfl):
  PE X (.Call (.Attribute o m apos) [] [] pos) (zf κ E (y6 c m f dp aNil)):=zZ (zot he cl hm Fk hr hb .nil hx ht) fun σ H Q h=>by
 refine tOf.mono (zlo hC hf h) fun x H1 ⟨a,dx,fs,h1,h2,h3,h4⟩=>⟨a,dx,fs,h1,h2,h3,?_⟩
 obtain ⟨F1,r1,h5⟩:=h4
 exact h5 F1.β [] H1 Ext.refl ⟨r1,.nil⟩
def eNew (c:Str) (f:F3) (a:A3):E3:=fun s h=>(a s h).bind fun fs h1=>match vals3 fs with
 | some vs=>match f (.loc h1.length::vs) (h1++[.ins c []]) with
  | .ok (.v .non) h2=> .ok (.v (.loc h1.length)) h2
  | .ex x h2=> .ex x h2
  | _=> .no
 | none=> .no
theorem zs0 {C:Addr} {c:Str} {f:F3} {k:Nat} (hC:κ.cl c=some C) (hf:zp f k) {β1:List (Option Addr)} {h1:H3} {H1:Hp} {xs:List V3} {vs:List V} {x dx:Addr} (r1:Rel κ (F.to β1 h1) σ H1) (hr:Reps κ β1 F.O H1 xs vs) (hx:H1 x=none) (hdx:H1 dx=none) (hne:dx≠x) {E':XK} {Q':VK}
  (o:match f (.loc h1.length::xs) (h1++[.ins c []]) with
   | .ok (.v .non) h2=> ∀β' H',Ext No β1 H1 β' H'→Rel κ (F.to β' h2) σ H'→Rep κ β' F.O H' (.loc h1.length) (.ref x)→Q' .non H'
   | .ex x' h2=> ∀β' H',Ext No β1 H1 β' H'→RelH κ F.O β' h2 H'→XOk κ E' x' β' F.O H'
   | _=>False):zk κ k f (.ref x::vs) (zg (zg H1 dx (.own x)) x (.ins C dx [])) Q' E':=by
 have hl:β1.length=h1.length:=r1.heap.len
 have hdx2:(zg H1 dx (.own x)) x=none:=by rw [zl (Ne.symm hne)];exact hx
 have kp: ∀a u,H1 a=some u→(zg (zg H1 dx (.own x)) x (.ins C dx [])) a=some u:=fun a u ha=>by rw [zl (zT ha hx),zl (zT ha hdx)];exact ha
 obtain ⟨nx,nO⟩:=r1.heap.off_new hx
 have ex:Ext No β1 H1 (β1++[some x]) (zg (zg H1 dx (.own x)) x (.ins C dx [])):=⟨fun a u ha hn _=>⟨kp a u ha,fun z=>by
   rcases List.mem_append.mp z with z | z
   ·exact hn z
   ·have:=List.mem_singleton.mp z
    cases this
    rw [hx] at ha;cases ha⟩,by simp,fun i a hi h=>by rw [List.getElem?_append_left hi] at h;exact h,fun a u ha=>⟨u,kp a u ha⟩,fun i a hi h=>by
   rw [List.getElem?_append_right hi] at h
   have:a=x:=by have:=List.mem_of_getElem? h;simp at this;exact this
   rw [this];exact hx⟩
 have rh:RelH κ F.O (β1++[some x]) (h1++[.ins c []]) (zg (zg H1 dx (.own x)) x (.ins C dx [])):=by
  refine ⟨by simp [hl],fun i j a h1' h2'=>?_,fun a ha z=>?_,fun a ha=>let ⟨u,q,n⟩:=r1.heap.trk a ha;⟨u,kp a u q,n⟩,fun i a q=>?_,fun i c' hc=>?_⟩
  ·rcases Nat.lt_or_ge i β1.length with hi | hi <;> rcases Nat.lt_or_ge j β1.length with hj | hj
   ·rw [List.getElem?_append_left hi] at h1';rw [List.getElem?_append_left hj] at h2';exact r1.heap.inj i j a h1' h2'
   ·rw [List.getElem?_append_left hi] at h1';rw [List.getElem?_append_right hj] at h2'
    have:a=x:=by
     have:=List.mem_of_getElem? h2';simp at this;exact this
    subst this;exact absurd (List.mem_of_getElem? h1') nx
   ·rw [List.getElem?_append_right hi] at h1';rw [List.getElem?_append_left hj] at h2'
    have:a=x:=by
     have:=List.mem_of_getElem? h1';simp at this;exact this
    subst this;exact absurd (List.mem_of_getElem? h2') nx
   ·have hi2:i < (β1++[some x]).length:=(List.getElem?_eq_some_iff.mp h1').1
    have hj2:j < (β1++[some x]).length:=(List.getElem?_eq_some_iff.mp h2').1
    simp at hi2 hj2;omega
  ·rcases List.mem_append.mp z with z | z
   ·exact r1.heap.off a ha z
   ·have:=List.mem_singleton.mp z
    cases this;exact nO ha
  ·rcases Nat.lt_or_ge i β1.length with hi | hi
   ·rw [List.getElem?_append_left hi] at q
    obtain ⟨u,hu,n⟩:=r1.heap.btr i a q
    exact ⟨u,kp a u hu,n⟩
   ·rw [List.getElem?_append_right hi] at q
    have:a=x:=by have:=List.mem_of_getElem? q;simp at this;exact this
    subst this;exact ⟨_,zI,by intro _ z;cases z⟩
  ·rcases Nat.lt_or_ge i h1.length with hi | hi
   ·rw [List.getElem?_append_left hi] at hc
    refine (r1.heap.cell i c' hc).imp id fun ⟨a,ha,q⟩=>⟨a,by rw [List.getElem?_append_left (by rw [hl];exact hi)];exact ha,q.ext ex (fun _ z=>z.elim) (fun _ _ _ n=>n) fun u hu=>kp a u hu⟩
   ·rw [List.getElem?_append_right hi] at hc
    have hi2:i - h1.length=0:=by
     have:=(List.getElem?_eq_some_iff.mp hc).1;simp at this;exact this
    rw [hi2] at hc;cases hc
    have ei:i=h1.length:=by omega
    subst ei
    exact .inr ⟨x,by rw [←hl];simp,C,dx,[],hC,zI,.nil⟩
 have rloc:Rep κ (β1++[some x]) F.O (zg (zg H1 dx (.own x)) x (.ins C dx [])) (.loc h1.length) (.ref x):= .loc (by simp [hl]) fun a ha=>by rw [←hl] at ha;simp at ha;rw [ha]
 refine ⟨F.O,β1++[some x],.loc h1.length::xs,h1++[.ins c []],?_,rh,.cons rloc (hr.ext0 ex),?_⟩
 ·refine Classical.byContradiction fun n=>?_
  rw [hf (.loc h1.length::xs) _ (by rw [List.length_cons,hr.length];exact n)] at o
  exact o
 ·cases q2:f (.loc h1.length::xs) (h1++[.ins c []]) with
  | no=>simp only [q2] at o
  | ex x' h2=>simp only [q2] at o;exact fun β' H' e' r'=>o β' H' (ex.trans0 e') r'
  | ok r h2=>
   have hn:r= .v .non:=by
    cases r with
    | m _=>simp only [q2] at o
    | v z=>cases z <;> first | rfl | simp only [q2] at o
   subst hn
   simp only [q2] at o
   intro β' v H' e' pf
   obtain ⟨rh',rn⟩:=pf
   cases rn
   refine o β' H' (ex.trans0 e') (Rel.next (F:=F.to β1 h1) r1 (ex.trans0 e') rh') (.loc ?_ fun a ha=>?_)
   ·show h1.length < β'.length;have:=e'.len;simp at this;omega
   ·have:=e'.bet h1.length a (by simp [hl]) ha
    rw [←hl] at this;simp at this;rw [this]
theorem zuh {C:Addr} {c:Str} {f:F3} {t:A3} {k:Nat} (hC:κ.cl c=some C) (hf:zp f k) (h:zf κ E (eNew c f t) σ H Q):ztf C (zk κ k f) [] E (zy κ E t) σ H Q:=by
 obtain ⟨F,rel,o⟩:=h
 refine (zQ (K:=kA κ) zF rel o).mono fun vs H1 ⟨β1,h1,fs,e1,⟨r1,rf1⟩,o1⟩=>fun x dx hx hdx hne=>?_
 cases q:vals3 fs with
 | none=>simp only [q] at o1;exact o1.elim
 | some xs=>
  simp only [q] at o1
  rw [List.append_nil]
  refine zs0 hC hf r1 (zbr (F:=F.to β1 h1) rf1 q) hx hdx hne ?_
  cases q2:f (.loc h1.length::xs) (h1++[.ins c []]) with
  | no=>simp only [q2] at o1;exact o1
  | ex x' h2=>simp only [q2] at o1;exact fun β' H' e' r'=>(o1 β' H' e' (r'.sub fun a ha=> .inr (.inr ha))).sub fun a ha=> .inr (.inr ha)
  | ok r h2=>
   cases r with
   | m _=>simp only [q2] at o1;exact o1.elim
   | v z=>
    cases z <;> simp only [q2] at o1 <;> first | exact o1.elim | exact fun β' H' e' r' rl=>⟨rfl,o1 β' (.ref x) H' e' ⟨r',rl⟩⟩
theorem zun {C fI:Addr} {c x:Str} {es:List Expr} {f:F3} {t:A3} {k:Nat} {fd:FuncData} {ps:List Str} {n:Nat} (hC:κ.cl c=some C) (hf:zp f n) (M:Mk X.K C fI) (Fk:FnOk X.prog X.w X.K X.mg X.base (XT X.prog X.w) k fI fd ps (zk κ n f)) (hr:Room (k+1) X.A) (hg:Gl X x) (hm:X.mg x=some (.ref C)) (hb:Binds X.K fd ps []) (hx:yO (XT X.prog X.w) X E)
 (ha:PA X (e::es) (zy κ E t)) (hdb:(x==("__debug__" :Str))=false:=by decide) (he:starEach (e::es) X.env=(false,eval e X.env)::starEach es X.env:=by rfl) (hpl:(backTo pos (starEach es X.env)).any (·.1)=false:=by rfl):
 PE X (.Call (.Name x np) (e::es) [] pos) (zf κ E (eNew c f t)):=zZ (zqi M Fk hr hg hm hb .nil hx ha hdb he hpl) fun _ _ _ h=>zuh hC hf h
end
mutual
def low (n:Nat):V3→Bool
 | .loc m=>decide (m < n)
 | .tup xs=>lows n xs
 | .lst xs=>lows n xs
 | .dK kvs=>lowK n kvs
 | .dT kvs=>lowT n kvs
 | .obj _ fs=>lowF n fs
 | .fn _ env=>lows n env
 | _=>true
def lows (n:Nat):List V3→Bool
 | []=>true
 | x::r=>low n x && lows n r
def lowK (n:Nat):List (yd×V3)→Bool
 | []=>true
 | (_,x)::r=>low n x && lowK n r
def lowT (n:Nat):List (MK×V3)→Bool
 | []=>true
 | (_,x)::r=>low n x && lowT n r
def lowF (n:Nat):List (Str×V3)→Bool
 | []=>true
 | (_,x)::r=>low n x && lowF n r
end
section
variable {X:Cx} {κ:Kx} {E:XK} {F F':Fr} {σ σ':L2.St} {H H1 H':Hp} {Q:VK} {p:Addr} {e a b c o:Expr} {pos apos np cpos:Pos} {i:Nat} {D:Ends} {β:List (Option Addr)} {O:Addr→Prop}
def zX {α:Type} (n:Nat) (kvs:List (α×V3)):Prop:=∀kv∈kvs,low n kv.2=true
theorem lowK_iff {n:Nat}: ∀{kvs:List (yd×V3)},lowK n kvs=true↔zX n kvs
 | []=>by simp [lowK,zX]
 | (k,x)::r=>by simp [lowK,zX,Bool.and_eq_true,lowK_iff (kvs:=r)]
theorem lowT_iff {n:Nat}: ∀{kvs:List (MK×V3)},lowT n kvs=true↔zX n kvs
 | []=>by simp [lowT,zX]
 | (k,x)::r=>by simp [lowT,zX,Bool.and_eq_true,lowT_iff (kvs:=r)]
theorem lowF_iff {n:Nat}: ∀{kvs:List (Str×V3)},lowF n kvs=true↔zX n kvs
 | []=>by simp [lowF,zX]
 | (k,x)::r=>by simp [lowF,zX,Bool.and_eq_true,lowF_iff (kvs:=r)]
mutual
theorem Rep.low: ∀{x:V3} {v:V},Rep κ β O H x v→low β.length x=true
 | _,_,.non=>by simp [L3.low]
 | _,_,.bl _=>by simp [L3.low]
 | _,_,.int _=>by simp [L3.low]
 | _,_,.str _=>by simp [L3.low]
 | _,_,.ty _=>by simp [L3.low]
 | _,_,.tup _ _ _ r=>by simp only [L3.low];exact Reps.low r
 | _,_,.lst _ _ _ r=>by simp only [L3.low];exact Reps.low r
 | _,_,.scr _ _ _=>by simp [L3.low]
 | _,_,.scrK _=>by simp [L3.low]
 | _,_,.dK _ _ _ r=>by simp only [L3.low];exact lowK_iff.mpr (RepP.low r)
 | _,_,.dT _ _ _ r=>by simp only [L3.low];exact lowT_iff.mpr (RepP.low r)
 | _,_,.obj _ _ _ _ r=>by simp only [L3.low];exact lowF_iff.mpr (RepP.low r)
 | _,_,.cls _=>by simp [L3.low]
 | _,_,.clo _ r=>by simpa [L3.low] using Reps.low r
 | _,_,.exc (dd:=dd) _ _ _ _ x=>by
  cases dd with
  | none=>cases x;simp [L3.low,L3.lows]
  | some d=>obtain ⟨z,rfl,_⟩:=x;simp [L3.low,L3.lows]
 | _,_,.loc h _=>by simp [L3.low,h]
theorem Reps.low: ∀{x:List V3} {v:List V},Reps κ β O H x v→lows β.length x=true
 | _,_,.nil=>by simp [L3.lows]
 | _,_,.cons a r=>by simp only [L3.lows,Bool.and_eq_true];exact ⟨Rep.low a,Reps.low r⟩
theorem RepP.low: ∀{α:Type} {x:List (α×V3)} {v:List (α×V)},RepP κ β O H x v→zX β.length x
 | _,_,_,.nil=>fun kv h=>by cases h
 | _,_,_,.cons a r=>fun kv h=>by
  rcases List.mem_cons.mp h with z | z
  ·rw [z];exact Rep.low a
  ·exact RepP.low r kv z
end
mutual
theorem Rep.cut {n:Nat}: ∀{x:V3} {v:V},Rep κ β O H x v→low n x=true→Rep κ (β.take n) O H x v
 | _,_,.non,_=> .non
 | _,_,.bl b,_=> .bl b
 | _,_,.int i,_=> .int i
 | _,_,.str x,_=> .str x
 | _,_,.ty x,_=> .ty x
 | _,_,.tup h1 h2 h3 r,l=> .tup h1 (fun z=>h2 (List.mem_of_mem_take z)) h3 (Reps.cut r (by simpa only [L3.low] using l))
 | _,_,.lst h1 h2 h3 r,l=> .lst h1 (fun z=>h2 (List.mem_of_mem_take z)) h3 (Reps.cut r (by simpa only [L3.low] using l))
 | _,_,.scr h1 h2 h3,_=> .scr h1 (fun z=>h2 (List.mem_of_mem_take z)) h3
 | _,_,.scrK h,_=> .scrK h
 | _,_,.dK h1 h2 h3 r,l=> .dK h1 (fun z=>h2 (List.mem_of_mem_take z)) h3 (RepP.cut r (lowK_iff.mp (by simpa only [L3.low] using l)))
 | _,_,.dT h1 h2 h3 r,l=> .dT h1 (fun z=>h2 (List.mem_of_mem_take z)) h3 (RepP.cut r (lowT_iff.mp (by simpa only [L3.low] using l)))
 | _,_,.obj h0 h1 h2 h3 r,l=> .obj h0 h1 (fun z=>h2 (List.mem_of_mem_take z)) h3 (RepP.cut r (lowF_iff.mp (by simpa only [L3.low] using l)))
 | _,_,.cls h,_=> .cls h
 | _,_,.clo h0 r,l=> .clo h0 (Reps.cut r (by simpa [L3.low] using l))
 | _,_,.exc h0 h1 h2 h3 x,_=> .exc h0 h1 (fun z=>h2 (List.mem_of_mem_take z)) h3 (x.imp fun d u h n q=>⟨h,fun z=>n (List.mem_of_mem_take z),q⟩)
 | _,_,.loc (n:=m) h1 h2,l=>by
  have hm:m < n:=by simpa [L3.low] using l
  exact .loc (by rw [List.length_take];omega) fun a ha=>h2 a (by rw [List.getElem?_take_of_lt hm] at ha;exact ha)
theorem Reps.cut {n:Nat}: ∀{x:List V3} {v:List V},Reps κ β O H x v→lows n x=true→Reps κ (β.take n) O H x v
 | _,_,.nil,_=> .nil
 | _,_,.cons a r,l=>by
  simp only [L3.lows,Bool.and_eq_true] at l
  exact .cons (Rep.cut a l.1) (Reps.cut r l.2)
theorem RepP.cut {n:Nat}: ∀{α:Type} {x:List (α×V3)} {v:List (α×V)},RepP κ β O H x v→zX n x→RepP κ (β.take n) O H x v
 | _,_,_,.nil,_=> .nil
 | _,_,_,.cons a r,l=> .cons (Rep.cut a (l _ List.mem_cons_self)) (RepP.cut r fun kv h=>l kv (List.mem_cons_of_mem _ h))
end
def lowC (n:Nat):C3→Prop
 | .lst xs=>lows n xs=true
 | .dK kvs=>zX n kvs
 | .dT kvs=>zX n kvs
 | .ins _ fs=>zX n fs
 | .dead=>True
 | .tab=>True
theorem CellR.low {c:C3} {a:Addr} (r:CellR κ β O H c a):lowC β.length c:=by
 cases c with
 | lst xs=>obtain ⟨_,_,r⟩:=r;exact r.low
 | dK xs=>obtain ⟨_,_,r⟩:=r;exact r.low
 | dT xs=>obtain ⟨_,_,r⟩:=r;exact r.low
 | ins c fs=>obtain ⟨_,_,_,_,_,r⟩:=r;exact r.low
 | dead=>exact r.elim
 | tab=>trivial
theorem CellR.cut {c:C3} {a:Addr} {n:Nat} (r:CellR κ β O H c a) (l:lowC n c):CellR κ (β.take n) O H c a:=by
 cases c with
 | lst xs=>obtain ⟨_,q,r⟩:=r;exact ⟨_,q,r.cut l⟩
 | dK xs=>obtain ⟨_,q,r⟩:=r;exact ⟨_,q,r.cut l⟩
 | dT xs=>obtain ⟨_,q,r⟩:=r;exact ⟨_,q,r.cut l⟩
 | ins c fs=>obtain ⟨_,_,_,k,q,r⟩:=r;exact ⟨_,_,_,k,q,r.cut l⟩
 | dead=>exact r.elim
 | tab=>exact r
mutual
theorem Rep.addO {x:Addr} (hx:some x∈β): ∀{v:V3} {w:V},Rep κ β O H v w→Rep κ β (fun a=>a=x∨O a) H v w
 | _,_,.non=> .non
 | _,_,.bl b=> .bl b
 | _,_,.int i=> .int i
 | _,_,.str x=> .str x
 | _,_,.ty x=> .ty x
 | _,_,.tup h1 h2 h3 r=> .tup h1 h2 (fun z=>z.elim (fun e=>h2 (by rw [e];exact hx)) h3) (Reps.addO hx r)
 | _,_,.lst h1 h2 h3 r=> .lst h1 h2 (fun z=>z.elim (fun e=>h2 (by rw [e];exact hx)) h3) (Reps.addO hx r)
 | _,_,.scr h1 h2 h3=> .scr h1 h2 (fun z=>z.elim (fun e=>h2 (by rw [e];exact hx)) h3)
 | _,_,.scrK h=> .scrK h
 | _,_,.dK h1 h2 h3 r=> .dK h1 h2 (fun z=>z.elim (fun e=>h2 (by rw [e];exact hx)) h3) (RepP.addO hx r)
 | _,_,.dT h1 h2 h3 r=> .dT h1 h2 (fun z=>z.elim (fun e=>h2 (by rw [e];exact hx)) h3) (RepP.addO hx r)
 | _,_,.obj h0 h1 h2 h3 r=> .obj h0 h1 h2 (fun z=>z.elim (fun e=>h2 (by rw [e];exact hx)) h3) (RepP.addO hx r)
 | _,_,.cls h=> .cls h
 | _,_,.clo h0 r=> .clo h0 (Reps.addO hx r)
 | _,_,.exc h0 h1 h2 h3 x=> .exc h0 h1 h2 (fun z=>z.elim (fun e=>h2 (by rw [e];exact hx)) h3) (x.imp fun d u h n q=>⟨h,n,fun z=>z.elim (fun e=>n (by rw [e];exact hx)) q⟩)
 | _,_,.loc h1 h2=> .loc h1 h2
theorem Reps.addO {x:Addr} (hx:some x∈β): ∀{v:List V3} {w:List V},Reps κ β O H v w→Reps κ β (fun a=>a=x∨O a) H v w
 | _,_,.nil=> .nil
 | _,_,.cons a r=> .cons (Rep.addO hx a) (Reps.addO hx r)
theorem RepP.addO {x:Addr} (hx:some x∈β): ∀{α:Type} {v:List (α×V3)} {w:List (α×V)},RepP κ β O H v w→RepP κ β (fun a=>a=x∨O a) H v w
 | _,_,_,.nil=> .nil
 | _,_,_,.cons a r=> .cons (Rep.addO hx a) (RepP.addO hx r)
end
theorem CellR.addO {c:C3} {a x:Addr} (hx:some x∈β) (r:CellR κ β O H c a):CellR κ β (fun a=>a=x∨O a) H c a:=by
 cases c with
 | lst xs=>obtain ⟨_,q,r⟩:=r;exact ⟨_,q,r.addO hx⟩
 | dK xs=>obtain ⟨_,q,r⟩:=r;exact ⟨_,q,r.addO hx⟩
 | dT xs=>obtain ⟨_,q,r⟩:=r;exact ⟨_,q,r.addO hx⟩
 | ins c fs=>obtain ⟨_,_,_,k,q,r⟩:=r;exact ⟨_,_,_,k,q,r.addO hx⟩
 | dead=>exact r.elim
 | tab=>exact r
open Classical in
def eObj (e:E3):E3:=fun s h=>(e s h).bind fun r h1=>match r with
 | .v (.loc n)=>match h1[n]? with
  | some (.ins c fs)=>if n=h.length∧h1=h++[.ins c fs]∧lowF n fs=true then .ok (.m (.ins c fs)) h else .no
  | _=> .no
 | _=> .no
theorem zpf {β1:List (Option Addr)} {h1:H3} {n:Nat} {c:Str} {fs:List (Str×V3)} {v:V} (rel:Rel κ F σ H) (e1:Ext No F.β H β1 H1) (r1:Rel κ (F.to β1 h1) σ H1) (rl:Rep κ β1 F.O H1 (.loc n) v) (en:n=F.h.length) (eh:h1=F.h++[.ins c fs]) (hlow:lowF n fs=true):
  Ext No F.β H (β1.take n) H1∧Post κ (Nw H) (F.to (β1.take n) F.h) σ H1 (.m (.ins c fs)) v:=by
 have hl1:β1.length=h1.length:=r1.heap.len
 have hl0:F.β.length=F.h.length:=rel.heap.len
 have hlen:β1.length=n+1:=by rw [hl1,eh];simp [en]
 have hn:h1[n]? =some (.ins c fs):=by rw [eh,en];simp
 rcases r1.heap.cell n _ hn with w | ⟨x,hx,C,dx,gs,k1,k2,k3⟩
 ·cases w
 have hx:β1[n]? =some (some x):=hx
 have ev:v= .ref x:=by cases rl with | loc _ l2=>exact l2 x hx
 subst ev
 have hxb:some x∈β1:=List.mem_of_getElem? hx
 have hxn:some x∉β1.take n:=fun z=>by
  obtain ⟨j,hj⟩:=List.getElem?_of_mem z
  have hj2:j < n:=by have:=(List.getElem?_eq_some_iff.mp hj).1;rw [List.length_take] at this;omega
  rw [List.getElem?_take_of_lt hj2] at hj
  have:=r1.heap.inj j n x hj hx
  omega
 have hxH:H x=none:=e1.nwb n x (by omega) hx
 have ex:Ext No F.β H (β1.take n) H1:=⟨fun a u ha hb m=>by
   obtain ⟨q1,q2⟩:=e1.keep a u ha hb m
   exact ⟨q1,fun z=>q2 (List.mem_of_mem_take z)⟩,by rw [List.length_take];omega,fun i a hi h=>by
   rw [List.getElem?_take_of_lt (by omega)] at h;exact e1.bet i a hi h,e1.there,fun i a hi h=>by
   have:=(List.getElem?_eq_some_iff.mp h).1;rw [List.length_take] at this;omega⟩
 have rh:RelH κ (fun a=>a=x∨F.O a) (β1.take n) F.h H1:=by
  refine ⟨by rw [List.length_take];omega,fun i j a h1' h2'=>?_,fun a ha z=>?_,fun a ha=>?_,fun i a q=>?_,fun i c' hc=>?_⟩
  ·have hi:i < n:=by have:=(List.getElem?_eq_some_iff.mp h1').1;rw [List.length_take] at this;omega
   have hj:j < n:=by have:=(List.getElem?_eq_some_iff.mp h2').1;rw [List.length_take] at this;omega
   rw [List.getElem?_take_of_lt hi] at h1';rw [List.getElem?_take_of_lt hj] at h2'
   exact r1.heap.inj i j a h1' h2'
  ·rcases ha with ha | ha
   ·subst ha;exact hxn z
   ·exact r1.heap.off a ha (List.mem_of_mem_take z)
  ·rcases ha with ha | ha
   ·subst ha;exact ⟨_,k2,by intro _ z;cases z⟩
   ·exact r1.heap.trk a ha
  ·have hi:i < n:=by have:=(List.getElem?_eq_some_iff.mp q).1;rw [List.length_take] at this;omega
   rw [List.getElem?_take_of_lt hi] at q
   exact r1.heap.btr i a q
  ·have hi:i < n:=by rw [en];exact (List.getElem?_eq_some_iff.mp hc).1
   have hc1:h1[i]? =some c':=by rw [eh,List.getElem?_append_left (by omega)];exact hc
   have hlw:c'= .dead∨lowC n c':=(rel.heap.cell i c' hc).imp id fun ⟨a,_,q⟩=>by have:=q.low;rw [hl0,←en] at this;exact this
   rcases hlw with z | hlw
   ·exact .inl z
   ·exact (r1.heap.cell i c' hc1).imp id fun ⟨a,ha,q⟩=>⟨a,by rw [List.getElem?_take_of_lt hi];exact ha,(CellR.addO hxb q).cut hlw⟩
 refine ⟨ex,x,rfl,rel.nextNew ex rh hxH,⟨C,dx,gs,k1,k2,((RepP.addO hxb k3).cut (lowF_iff.mp hlow)).sub fun a ha=>?_⟩,hxH⟩
 rcases ha with z | z
 ·rcases List.mem_cons.mp z with z | z
  ·exact .inl z
  ·exact .inr (.inl z)
 ·exact .inr (.inr z)
theorem zvp {d:E3} (h:PE X e (zf κ E d)):PE X e (zf κ E (eObj d)):=zZ h fun σ H Q ⟨F,rel,o⟩=>by
 refine ⟨F,rel,?_⟩
 unfold eObj at o
 cases q:d F.s F.h with
 | no=>rw [q] at o;exact o
 | ex x h1=>rw [q] at o;exact o
 | ok r h1=>
  rw [q] at o
  intro β1 v H1 e1 p1
  simp only [Res.bind] at o
  split at o
  ·split at o
   ·split at o
    ·rename_i hc
     obtain ⟨en,eh,hlow⟩:=hc
     obtain ⟨ex,ps⟩:=zpf rel e1 p1.1 p1.2 en eh hlow
     exact o _ v H1 ex ps
    ·exact o.elim
   ·exact o.elim
  ·exact o.elim
end
section
variable {X:Cx} {κ:Kx} {E:XK} {F F':Fr} {σ σ':L2.St} {H H1 H':Hp} {Q:VK} {p:Addr} {e a b c o:Expr} {es:List Expr} {pos apos np cpos:Pos} {i:Nat} {D:Ends}
theorem yJ {A:Around} {k:Nat} (hr:Room k A):A.units+9 < cLine:=by have:=hr.units;omega
theorem Flds.cons {cs:List Str} {c f:Str} {C:Addr} (hC:κ.cl c=some C) (cl:Cls X.K C) (na:NoAttr X.K C f) (r:Flds X κ cs f):Flds X κ (c::cs) f:=fun c' hc C' hC'=>by
 rcases List.mem_cons.mp hc with z | z
 ·subst z;rw [hC] at hC';cases hC';exact ⟨cl,na⟩
 ·exact r c' z C' hC'
theorem zg2: ∀xs s s',gsNil xs s=some s'→xs.length=0:=fun xs s s' e=>by
 cases xs with
 | nil=>rfl
 | cons _ _=>cases e
theorem zce {g:G3} {gs:Gs3} {n:Nat} (h: ∀xs s s',gs xs s=some s'→xs.length=n): ∀xs s s',gsCons g gs xs s=some s'→xs.length=n+1:=fun xs s s' e=>by
 cases xs with
 | nil=>cases e
 | cons x r=>
  simp only [gsCons] at e
  cases q:g x s with
  | none=>rw [q] at e;cases e
  | some s1=>rw [q] at e;rw [List.length_cons,h r s1 s' e]
def sAug (i:Nat) (f:F2) (p:P3):D3:=fun s h=>match s[i]? with
 | some (some (.v x))=>(p s h).bindS fun y h1=>match f s h1 (.x x) y with
  | some (.v z)=> .nx (s.set i (some (.v z))) h1
  | _=> .no
 | _=> .no
theorem zfk:OpSim κ (ipI fun i j=>i+j) zhg:=sim_addI
theorem zme {x:Str} {op:Operator} {ti:TIp} {f:F2} {d:P3} {pos':Pos} (hs:OpSim κ ti f) (hh: ∀{te:TE},PE X e te→PS X (.AugAssign (.Name x pos') op e pos) (tAug i te ti)) (he:PE X e (zn κ E d)):PS X (.AugAssign (.Name x pos') op e pos) (zq κ E (sAug i f d)):=qc (hh he) fun D σ H ⟨F,rel,ht,o⟩=>by
 unfold sAug at o
 cases q:F.s[i]? with
 | none=>rw [q] at o;exact o.elim
 | some z=>
  rw [q] at o
  match z,q,o with
  | none,q,o=>exact o.elim
  | some (.m _),q,o=>exact o.elim
  | some (.v x3),q,o=>
   obtain ⟨v,h1,h2⟩:=rel.slot i _ q
   refine ⟨v,h1,(bindS (K:=kP κ) rel ht o).mono fun w H1 ⟨β1,h1',y,e1,⟨r1,ry⟩,o1⟩=>?_⟩
   have hi':i < F.s.length:=(List.getElem?_eq_some_iff.mp q).1
   cases q2:f F.s h1' (.x x3) y with
   | none=>simp only [q2] at o1;exact o1.elim
   | some z=>
    refine hs (F.to β1 h1') σ H1 (.x x3) y z v w _ r1 (show Rep κ β1 F.O H1 x3 v from Rep.ext0 e1 h2) ry q2 fun u H2 e2 p2=>?_
    match z,q2,p2,o1 with
    | .m _,q2,p2,o1=>simp only [q2] at o1;exact o1.elim
    | .v z,q2,p2,o1=>
     simp only [q2] at o1
     have s1:SExt F H (F.to β1 h1') H1:=SExt.of0 ht e1
     have s2:SExt (F.to β1 h1') H1 (F.to β1 h1') H2:=SExt.of0 (F:=F.to β1 h1') (h':=h1') ht e2
     exact o1 ((F.to β1 h1').setV i z) _ H2 ((s1.trans s2).trans (SExt.setN ht)) rfl rfl (p2.1.setV p2.2 hi')
def eGl (e:E3):E3:=fun s h=>(e s h).bind fun r h1=>match r with
 | .m c=> .ok (.v (.loc h1.length)) (h1++[c])
 | .v x=> .ok (.v x) h1
mutual
theorem Rep.grow {β:List (Option Addr)} {O O':Addr→Prop} {x:Addr} (hx:O x) (hs: ∀a,O' a→O a): ∀{v:V3} {w:V},Rep κ β O H v w→Rep κ (β++[some x]) O' H v w
 | _,_,.non=> .non
 | _,_,.bl b=> .bl b
 | _,_,.int i=> .int i
 | _,_,.str x=> .str x
 | _,_,.ty x=> .ty x
 | _,_,.tup h1 h2 h3 r=> .tup h1 (fun z=>(List.mem_append.mp z).elim h2 fun z=>h3 (by have:=List.mem_singleton.mp z;cases this;exact hx)) (fun z=>h3 (hs _ z)) (Reps.grow hx hs r)
 | _,_,.lst h1 h2 h3 r=> .lst h1 (fun z=>(List.mem_append.mp z).elim h2 fun z=>h3 (by have:=List.mem_singleton.mp z;cases this;exact hx)) (fun z=>h3 (hs _ z)) (Reps.grow hx hs r)
 | _,_,.scr h1 h2 h3=> .scr h1 (fun z=>(List.mem_append.mp z).elim h2 fun z=>h3 (by have:=List.mem_singleton.mp z;cases this;exact hx)) (fun z=>h3 (hs _ z))
 | _,_,.scrK h=> .scrK h
 | _,_,.dK h1 h2 h3 r=> .dK h1 (fun z=>(List.mem_append.mp z).elim h2 fun z=>h3 (by have:=List.mem_singleton.mp z;cases this;exact hx)) (fun z=>h3 (hs _ z)) (RepP.grow hx hs r)
 | _,_,.dT h1 h2 h3 r=> .dT h1 (fun z=>(List.mem_append.mp z).elim h2 fun z=>h3 (by have:=List.mem_singleton.mp z;cases this;exact hx)) (fun z=>h3 (hs _ z)) (RepP.grow hx hs r)
 | _,_,.obj h0 h1 h2 h3 r=> .obj h0 h1 (fun z=>(List.mem_append.mp z).elim h2 fun z=>h3 (by have:=List.mem_singleton.mp z;cases this;exact hx)) (fun z=>h3 (hs _ z)) (RepP.grow hx hs r)
 | _,_,.cls h=> .cls h
 | _,_,.clo h0 r=> .clo h0 (Reps.grow hx hs r)
 | _,_,.exc h0 h1 h2 h3 x=> .exc h0 h1 (fun z=>(List.mem_append.mp z).elim h2 fun z=>h3 (by have:=List.mem_singleton.mp z;cases this;exact hx)) (fun z=>h3 (hs _ z)) (x.imp fun d u h n q=>⟨h,fun z=>(List.mem_append.mp z).elim n fun z=>q (by have:=List.mem_singleton.mp z;cases this;exact hx),fun z=>q (hs _ z)⟩)
 | _,_,.loc h1 h2=> .loc (by rw [List.length_append];omega) fun a ha=>h2 a (by rw [List.getElem?_append_left h1] at ha;exact ha)
theorem Reps.grow {β:List (Option Addr)} {O O':Addr→Prop} {x:Addr} (hx:O x) (hs: ∀a,O' a→O a): ∀{v:List V3} {w:List V},Reps κ β O H v w→Reps κ (β++[some x]) O' H v w
 | _,_,.nil=> .nil
 | _,_,.cons a r=> .cons (Rep.grow hx hs a) (Reps.grow hx hs r)
theorem RepP.grow {β:List (Option Addr)} {O O':Addr→Prop} {x:Addr} (hx:O x) (hs: ∀a,O' a→O a): ∀{α:Type} {v:List (α×V3)} {w:List (α×V)},RepP κ β O H v w→RepP κ (β++[some x]) O' H v w
 | _,_,_,.nil=> .nil
 | _,_,_,.cons a r=> .cons (Rep.grow hx hs a) (RepP.grow hx hs r)
end
theorem CellR.grow {β:List (Option Addr)} {O O':Addr→Prop} {x:Addr} (hx:O x) (hs: ∀a,O' a→O a) {c:C3} {a:Addr} (r:CellR κ β O H c a):CellR κ (β++[some x]) O' H c a:=by
 cases c with
 | lst xs=>obtain ⟨_,q,r⟩:=r;exact ⟨_,q,r.grow hx hs⟩
 | dK xs=>obtain ⟨_,q,r⟩:=r;exact ⟨_,q,r.grow hx hs⟩
 | dT xs=>obtain ⟨_,q,r⟩:=r;exact ⟨_,q,r.grow hx hs⟩
 | ins c fs=>obtain ⟨_,_,_,k,q,r⟩:=r;exact ⟨_,_,_,k,q,r.grow hx hs⟩
 | dead=>exact r.elim
 | tab=>exact r
theorem Rel.cell {c:C3} {x:Addr} (r1:Rel κ (F.with x) σ H) (hc:CellR κ F.β (F.with x).O H c x):Rel κ (F.to (F.β++[some x]) (F.h++[c])) σ H∧Rep κ (F.β++[some x]) F.O H (.loc F.h.length) (.ref x):=by
 have hl:F.β.length=F.h.length:=r1.heap.len
 have nx:some x∉F.β:=r1.offp
 have nO: ¬F.O x:=r1.apart
 have hxO:(F.with x).O x:= .inl List.mem_cons_self
 have hs: ∀a,F.O a→(F.with x).O a:=fun a ha=>Fr.O_with ha
 have rd:=r1.drop
 have last: ∀{i:Nat} {a:Addr},F.β.length≤i→(F.β++[some x])[i]? =some (some a)→a=x∧i=F.β.length:=fun {i a} hi h=>by
  have h0:=(List.getElem?_eq_some_iff.mp h).1
  rw [List.getElem?_append_right hi] at h
  have:=List.mem_of_getElem? h;simp at this
  simp at h0
  exact ⟨this,by omega⟩
 refine ⟨⟨⟨?_,fun i j a h1 h2=>?_,fun a ha z=>?_,rd.heap.trk,fun i a q=>?_,fun i c' hc'=>?_⟩,rd.slen,rd.llen,rd.linj,rd.lt,rd.lo,rd.to,rd.tn,fun i y hy=>?_⟩,?_⟩
 ·show (F.β++[some x]).length=(F.h++[c]).length;simp [hl]
 ·have h1:(F.β++[some x])[i]? =some (some a):=h1
  have h2:(F.β++[some x])[j]? =some (some a):=h2
  rcases Nat.lt_or_ge i F.β.length with hi | hi <;> rcases Nat.lt_or_ge j F.β.length with hj | hj
  ·rw [List.getElem?_append_left hi] at h1;rw [List.getElem?_append_left hj] at h2;exact r1.heap.inj i j a h1 h2
  ·obtain ⟨rfl,_⟩:=last hj h2;rw [List.getElem?_append_left hi] at h1;exact absurd (List.mem_of_getElem? h1) nx
  ·obtain ⟨rfl,_⟩:=last hi h1;rw [List.getElem?_append_left hj] at h2;exact absurd (List.mem_of_getElem? h2) nx
  ·have a1:=(last hi h1).2;have a2:=(last hj h2).2;omega
 ·have z:some a∈F.β++[some x]:=z
  rcases List.mem_append.mp z with z | z
  ·exact rd.heap.off a ha z
  ·have:=List.mem_singleton.mp z;cases this;exact nO ha
 ·have q:(F.β++[some x])[i]? =some (some a):=q
  rcases Nat.lt_or_ge i F.β.length with hi | hi
  ·rw [List.getElem?_append_left hi] at q;exact r1.heap.btr i a q
  ·rw [(last hi q).1];exact r1.heap.trk x hxO
 ·have hc':(F.h++[c])[i]? =some c':=hc'
  rcases Nat.lt_or_ge i F.h.length with hi | hi
  ·rw [List.getElem?_append_left hi] at hc'
   refine (r1.heap.cell i c' hc').imp id fun ⟨a,ha,q⟩=>⟨a,?_,q.grow hxO hs⟩
   show (F.β++[some x])[i]? =_
   rw [List.getElem?_append_left (by omega)];exact ha
  ·rw [List.getElem?_append_right hi] at hc'
   have h0:=(List.getElem?_eq_some_iff.mp hc').1
   simp at h0
   rw [h0] at hc';cases hc'
   have ei:i=F.h.length:=by omega
   subst ei
   refine .inr ⟨x,?_,hc.grow hxO hs⟩
   show (F.β++[some x])[F.h.length]? =_
   rw [←hl];simp
 ·obtain ⟨v,h1,h2⟩:=r1.slot i y hy
  refine ⟨v,h1,?_⟩
  cases y with
  | v y=>exact Rep.grow hxO hs h2
  | m c=>obtain ⟨a,a1,a2,a3⟩:=h2;exact ⟨a,a1,a2,a3.grow hxO hs⟩
 ·refine .loc (by simp [hl]) fun a ha=>?_
  rw [←hl] at ha;simp at ha;rw [ha]
theorem zvk {d:E3} {σ:L2.St} {H:Hp} {Q:VK} (h:zf κ E (eGl d) σ H Q):zf κ E d σ H Q:=by
 obtain ⟨F,rel,o⟩:=h
 refine ⟨F,rel,?_⟩
 unfold eGl at o
 cases q:d F.s F.h with
 | no=>rw [q] at o;exact o
 | ex x h1=>rw [q] at o;exact o
 | ok r h1=>
  rw [q] at o
  intro β1 v H1 e1 p1
  cases r with
  | v x=>exact o β1 v H1 e1 p1
  | m c=>
   obtain ⟨x,rfl,r1,hc,hn⟩:=p1
   obtain ⟨r2,rl⟩:=Rel.cell (F:=F.to β1 h1) r1 hc
   have nx:some x∉β1:=r1.offp
   refine o (β1++[some x]) (.ref x) H1 ⟨fun a u ha hb m=>?_,by rw [List.length_append];have:=e1.len;omega,fun i a hi hh=>?_,e1.there,fun i a hi hh=>?_⟩ ⟨r2,rl⟩
   ·obtain ⟨q1,q2⟩:=e1.keep a u ha hb m
    refine ⟨q1,fun z=>?_⟩
    rcases List.mem_append.mp z with z | z
    ·exact q2 z
    ·have:=List.mem_singleton.mp z;cases this
     rw [hn] at ha;cases ha
   ·rw [List.getElem?_append_left (by have:=e1.len;omega)] at hh
    exact e1.bet i a hi hh
   ·rcases Nat.lt_or_ge i β1.length with h2 | h2
    ·rw [List.getElem?_append_left h2] at hh;exact e1.nwb i a hi hh
    ·rw [List.getElem?_append_right h2] at hh
     have:a=x:=by have:=List.mem_of_getElem? hh;simp at this;exact this
     rw [this];exact hn
theorem r_gl {d:E3} (h:PE X e (zf κ E d)):PE X e (zf κ E (eGl d)):=zZ h fun _ _ _=>zvk
end
end L3
namespace L2
open PySem PySem.Spec PyProof.Rows
def zt5 (K:PySem.W.Frag) (C:Addr):Bool:=match K.lookup C with
 | some ⟨.type "type",_,.cls cd,sl⟩=>(match cd.mro,sl.toList with
  | .ref C'::bm,[_,_,_,_,some (.builtin n),_]=>C'==C && n=="ValueError.__new__" && !cd.hasDel && PySem.W.tailIn K bmV bm
  | _,_=>false)
 | _=>false
end L2
namespace L4
open PySem PySem.W PyProof.Rows L2
def zgx (tb:String→Option Builtin) (p:Program) (w:World) (m:Nat) (ann:Option Value):Nat→SharedT→Thread→Option SharedT
 | 0,_,_=>none
 | n+1,s,t=>match through t with
  | true=>some s
  | false=>match stepOk m ann t with
   | false=>none
   | true=>match stepT (denote tb) p w s t with
    | some (s',t')=>zgx tb p w m ann n s' t'
    | none=>none
theorem zgl {tb:String→Option Builtin} {p:Program} {w:World} {m:Nat} {ann:Option Value}: ∀{n:Nat} {s s':SharedT} {t:Thread},zgx tb p w m ann n s t=some s'→topRun tb p w m ann n s.abs t=some s'.abs
 | 0,_,_,_,h=>by cases h
 | n+1,s,s',t,h=>by
  unfold zgx at h
  unfold topRun
  cases he:through t with
  | true=>rw [he] at h;cases h;rfl
  | false=>
   rw [he] at h
   cases hk:stepOk m ann t with
   | false=>rw [hk] at h;cases h
   | true=>
    rw [hk] at h
    cases hs:stepT (denote tb) p w s t with
    | none=>rw [hs] at h;cases h
    | some r=>
     obtain ⟨s2,t2⟩:=r
     rw [hs] at h
     rw [stepT_spec hs]
     exact zgl h
def ztm:List Obj→Nat→BT→BT
 | [],_,t=>t
 | o::r,n,t=>ztm r (n+1) (t.ins n o)
def boot (P:Params) (os:OsState):SharedT:=⟨ztm (boot_heap P).objs.toList 0 .nil,11,(boot_heap P).life,Array.mk [],boot_drawn,boot_toks,os⟩
theorem znu (P:Params) (os:OsState):(boot P os).abs=⟨boot_heap P,Array.mk [],boot_drawn,boot_toks,os⟩:=by kernel_rfl
theorem zl7 (P:Params):((boot_heap P).isNs mainGlobals,(boot_heap P).objs.size,(boot_heap P).nsMap mainGlobals "__annotations__")=(true,11,some (.ref 6)):=by kernel_rfl
section
variable (p q:Program) (loose:List Str) {β:Type} (obs:Heap→β)
def looks (P:Params) (s:Shared):=
 ((staticsOk (importedModules p.main.body) (boot_heap P) s.heap && namesBound p s.heap && gensDone s && laidKept (boot_heap P) s.heap),openSeen q loose (importedModules p.main.body) (fun _=>true) true s,obs s.heap)
def zpj (N:Nat) (w:World) (os:OsState):=(zgx treeTable p w 11 (some (.ref 6)) N (boot w.params os) (topStub p)).map fun s=>looks p q loose obs w.params s.abs
end
theorem left_one {p q:Program} {loose:List Str} {β:Type} {obs:Heap→β} {good:β} {N:Nat} (e:opening p=plainProg p.main.scope.names) (hN:Nat.ble 600 N=true) (f: ∀s,fenceModules? p s=some s)
  (h: ∀w os,zpj p q loose obs N w os=some (true,openGood q loose,good)):LeftO p q loose (fun _=>true) (fun s=>obs s.heap) (fun _=>good) N:=fun w=>by
 obtain ⟨⟨h0,gs,d,k,os⟩,e1,e2⟩:=Option.map_eq_some_iff.mp (boot_open e hN f w)
 obtain ⟨rfl,rfl,rfl,rfl⟩:h0=boot_heap w.params∧gs=Array.mk []∧d=boot_drawn∧k=boot_toks:=by simpa using e2
 obtain ⟨s1,r1,r2⟩:=Option.map_eq_some_iff.mp (h w os)
 have r3:=zgl r1
 rw [znu] at r3
 obtain ⟨z1,z2,z3⟩:_∧_∧_:=by simpa only [Prod.mk.injEq] using zl7 w.params
 obtain ⟨l1,l2,l3⟩:_∧_∧_:=by simpa only [looks,Prod.mk.injEq] using r2
 have t:topFrom treeTable p w N ⟨boot_heap w.params,Array.mk [],boot_drawn,boot_toks,os⟩=some s1.abs:=by
  unfold topFrom
  dsimp only
  rw [z1,z2,z3,r3]
  show (match staticsOk (importedModules p.main.body) (boot_heap w.params) s1.abs.heap && namesBound p s1.abs.heap && gensDone s1.abs && laidKept (boot_heap w.params) s1.abs.heap with | true=>_ | false=>_)=_
  rw [l1]
 unfold openEnds
 rw [e1]
 show (topFrom treeTable p w N _).map _=_
 rw [t]
 exact congrArg some (Prod.ext l2 l3)
def frag (as:List Addr) (h:Heap):Frag:=as.filterMap fun a=>(h.get? a).map fun o=>(a,o)
theorem zqg {as:List Addr} {h:Heap}:(frag as h).In h:=by
 intro a o e
 induction as with
 | nil=>cases e
 | cons b r ih=>
  unfold frag at e
  rw [List.filterMap_cons] at e
  cases hb:h.get? b with
  | none=>rw [hb] at e;exact ih e
  | some ob=>
   rw [hb] at e
   simp only [Option.map_some,List.lookup] at e
   split at e
   ·rename_i q;cases e;rw [beq_iff_eq.mp q];exact hb
   ·exact ih e
def isNone:Value→Bool
 | .none=>true
 | _=>false
theorem zkw {v:Value} (h:isNone v=true):v= .none:=by cases v <;> first | rfl | cases h
def zhu (K:Frag) (qual:Str):Option (Option Value)→Option (Str×Str×Arguments×FuncBody×Scope×Bool)
 | some (some (.ref f))=>match K.lookup f with
  | some ⟨_,_,.func fd,_⟩=>some (fd.name,fd.qualname,fd.params,fd.body,fd.scope,(Nat.beq fd.globals mainGlobals && fd.closure.isEmpty && isNone fd.defaults && Nat.beq fd.builtins builtinsNs && codeIn K fd.code qual && isFn K (.ref f)))
  | _=>none
 | _=>none
def zhq (x qual:Str) (st:Stmt):Option (Str×Str×Arguments×FuncBody×Scope×Bool):=some (x,qual,zcu st,.stmts (yX st),zw st,true)
theorem zp3 {K:Frag} {x qual:Str} {st:Stmt} {v:Option (Option Value)} (e:zhu K qual v=zhq x qual st):
  ∃f fd,v=some (some (.ref f))∧Fun K x qual st f fd∧isFn K (.ref f)=true:=by
 unfold zhu at e
 split at e
 ·rename_i f
  split at e
  ·rename_i oc od fd sl hl
   unfold zhq at e
   simp only [Option.some.injEq,Prod.mk.injEq,Bool.and_eq_true] at e
   obtain ⟨e1,e2,e3,e4,e5,⟨⟨⟨⟨h1,h2⟩,h3⟩,h4⟩,h5⟩,h6⟩:=e
   refine ⟨f,fd,rfl,⟨⟨oc,od,fd.kwdefaults,fd.doc,fd.pyModule,fd.annotations,fd.code,fd.closureTuple,sl,?_,hl,h5⟩,?_⟩,h6⟩
   ·obtain ⟨a1,a2,a3,a4,a5,a6,a7,a8,a9,a10,a11,a12,a13,a14,a15⟩:=fd
    simp only at e1 e2 e3 e4 e5 h1 h2 h3 h4
    have h1:=Nat.eq_of_beq_eq_true h1
    have h2:=List.isEmpty_iff.mp h2
    have h3:=zkw h3
    have h4:=Nat.eq_of_beq_eq_true h4
    subst e1 e2 e3 e4 e5 h1 h2 h3 h4
    rfl
   ·unfold keepIn
    simp only [hl]
  ·cases e
 ·cases e
inductive KV where
 | int (i:Int)
 | str (s:Str)
def zmn:Option (Option Value)→Option KV
 | some (some (.int i _))=>some (.int i)
 | some (some (.str s _))=>some (.str s)
 | _=>none
theorem zs4 {v:Option (Option Value)} {i:Int} (e:zmn v=some (.int i)): ∃t,v=some (some (.int i t)):=by
 unfold zmn at e
 split at e
 ·simp only [Option.some.injEq,KV.int.injEq] at e;subst e;exact ⟨_,rfl⟩
 ·simp at e
 ·cases e
def zfg:Option (Option Value)→Bool
 | some none=>true
 | _=>false
theorem zqu {v:Option (Option Value)} (e:zfg v=true):v=some none:=by
 unfold zfg at e
 split at e
 ·rfl
 ·cases e
def zka (p:Program) (i:Nat):Stmt:=p.main.body.getD i (.Pass ⟨0,0,0,0⟩)
structure Ask where
 law:Nat
 at_:List Addr
 defs:List (Str×Nat)
 cls:List (Str×Nat×List (Str×Str×Nat)×List Str)
 bare:List Str
 con:List (Str×KV)
 exc:List (Str×Bool)
 tab:List (Str×Str×Bool)
 exi:List (Str×Str×Nat×Str×Nat)
def zj2 (K:Frag) (C:Addr):Bool:=
 plainGet K C Str.empty && hasDictIn K C && plainOver K C && (findIn K (.ref C) "__setattr__" ==some (some (.builtin "object.__setattr__"))) && makesIn K C && keepIn K (.ref C)
def zmz (K:Frag) (c:Str×Nat×List (Str×Str×Nat)×List Str):Option Value→Option (List (Option (Str×Str×Arguments×FuncBody×Scope×Bool))×Bool×List Bool)
 | some (.ref C)=>some (c.2.2.1.map (fun m=>zhu K m.2.1 (findIn K (.ref C) m.1)),zj2 K C,c.2.2.2.map fun a=>zfg (findIn K (.ref C) a))
 | _=>none
def zi7 (K:Frag) (C:Addr):Bool:=
 excIn K C bmV "ValueError.__new__" && (clsIn K C).isSome && (findIn K (.ref C) "__getattribute__" ==some (some (.builtin "BaseException.__getattribute__"))) && zfg (findIn K (.ref C) "__getattr__") && (findIn K (.ref C) "__class__" ==some (some (.builtin "object.__class__"))) && (subIn K (.ref C) (.type "BaseException")==some true) && (subIn K (.ref C) (.type "object")==some true) && (subIn K (.ref C) (.type "ValueError")==some true)
def zpm (K:Frag) (b:Bool):Option Value→Bool
 | some (.ref C)=>match b with
  | true=>zi7 K C
  | false=>true
 | _=>false
def zsl:Option CFound→Bool
 | some (.val (.builtin n))=>n=="ValueError.__init__"
 | _=>false
def zrk (K:Frag) (C B:Addr):Bool:=
 zt5 K C && (clsIn K C).isSome && (findIn K (.ref C) "__getattribute__" ==some (some (.builtin "BaseException.__getattribute__"))) && zfg (findIn K (.ref C) "__getattr__") && (findIn K (.ref C) "__class__" ==some (some (.builtin "object.__class__"))) && (subIn K (.ref C) (.type "BaseException")==some true) && (subIn K (.ref C) (.type "object")==some true) && zfg (findIn K (.ref C) "name") && (clsIn K C).any (fun cd=>cd.hasDict && zl5 cd.mro) && (findIn K (.ref C) "__setattr__" ==some (some (.builtin "object.__setattr__"))) && (subIn K (.ref C) (.type "ValueError")==some true) && keepIn K (.ref C) &&
 (specialIn K (.ref B) "__getattribute__" ==some (some (.builtin "type.__getattribute__"))) && readsIn K B (.type "type") && zsl (findCls K (.ref B) (.type "type") "__init__")
def zqw (K:Frag) (q:Str):Option Value→Option Value→Option (Option (Str×Str×Arguments×FuncBody×Scope×Bool)×Bool)
 | some (.ref C),some (.ref B)=>some (zhu K q (findIn K (.ref C) "__init__"),zrk K C B)
 | _,_=>none
def zqs (K:Frag) (v:Bool):Option Value→Option Value→Bool
 | some (.ref C),some (.ref B)=>exmOne K (.ref C) (.ref B)==some v && kitOne K (.ref C) (.ref B)==some v
 | _,_=>false
def seenK (A:Ask) (K:Frag):=
 (A.defs.map (fun d=>zhu K d.1 (nsIn K mainGlobals d.1)),A.cls.map (fun c=>zmz K c (nsIn K mainGlobals c.1).join),A.bare.map (fun b=>zfg (nsIn K mainGlobals b)),A.con.map (fun c=>zmn (nsIn K mainGlobals c.1)),A.exc.map (fun c=>zpm K c.2 (nsIn K mainGlobals c.1).join),A.tab.map (fun r=>zqs K r.2.2 (nsIn K mainGlobals r.1).join (nsIn K mainGlobals r.2.1).join),A.exi.map fun r=>zqw K r.2.2.2.1 (nsIn K mainGlobals r.1).join (nsIn K mainGlobals r.2.1).join)
def seen (A:Ask) (h:Heap):=seenK A (frag A.at_ h)
def good (p:Program) (A:Ask):=
 (A.defs.map (fun d=>zhq d.1 d.1 (zka p d.2)),
  A.cls.map (fun c=>some (c.2.2.1.map (fun m=>zhq m.1 m.2.1 (zdf (zka p c.2.1) m.2.2)),true,c.2.2.2.map fun _=>true)),
  A.bare.map (fun _=>true),A.con.map (fun c=>some c.2),A.exc.map (fun _=>true),A.tab.map (fun _=>true),A.exi.map fun r=>some (zhq "__init__" r.2.2.2.1 (zdf (zka p r.2.2.1) r.2.2.2.2),true))
def lawView (A:Ask) (p:Program):Program:={p with main:={p.main with body:=[zka p A.law]}}
def looseOf (p:Program):List Str:=(p.main.scope.names.map (·.1)).filter fun x=> !(x=="law")
section
variable {p:Program} {A:Ask} {K:Frag}
theorem zez {α β:Type} {f g:α→β} {l:List α} {i:Nat} {a:α} (e:l.map f=l.map g) (h:l[i]? =some a):f a=g a:=by
 have:=congrArg (fun z=>z[i]?) e
 simp only [List.getElem?_map,h,Option.map_some,Option.some.injEq] at this
 exact this
theorem def_at (S:seenK A K=good p A) (i:Nat) {d:Str×Nat} (h:A.defs[i]? =some d): ∃f fd,nsIn K mainGlobals d.1=some (some (.ref f))∧Fun K d.1 d.1 (zka p d.2) f fd:=by
 obtain ⟨f,fd,e,F,_⟩:=zp3 (zez (congrArg (fun z=>z.1) S) h)
 exact ⟨f,fd,e,F⟩
theorem bare_at (S:seenK A K=good p A) (i:Nat) {b:Str} (h:A.bare[i]? =some b):nsIn K mainGlobals b=some none:=zqu (zez (congrArg (fun z=>z.2.2.1) S) h)
theorem int_at (S:seenK A K=good p A) (i:Nat) {x:Str} {n:Int} (h:A.con[i]? =some (x,.int n)): ∃t,nsIn K mainGlobals x=some (some (.int n t)):=zs4 (zez (congrArg (fun z=>z.2.2.2.1) S) h)
structure ClsAt (p:Program) (K:Frag) (c:Str×Nat×List (Str×Str×Nat)×List Str) (C:Addr):Prop where
 g:nsIn K mainGlobals c.1=some (some (.ref C))
 cls:Cls K C
 makes:makesIn K C=true
 kp:keepIn K (.ref C)=true
 meth: ∀(j:Nat) (m:Str×Str×Nat),c.2.2.1[j]? =some m→∃f fd,findIn K (.ref C) m.1=some (some (.ref f))∧Fun K m.1 m.2.1 (zdf (zka p c.2.1) m.2.2) f fd∧isFn K (.ref f)=true
 fld: ∀(j:Nat) (a:Str),c.2.2.2[j]? =some a→NoAttr K C a
theorem zj4 {v:Option (Option Value)} {x:Value} (h:v.join=some x):v=some (some x):=by
 cases v with
 | none=>cases h
 | some v=>cases h;rfl
theorem exc_at (S:seenK A K=good p A) (i:Nat) {x:Str} {b:Bool} (h:A.exc[i]? =some (x,b)): ∃C,nsIn K mainGlobals x=some (some (.ref C))∧(b=true→excIn K C bmV "ValueError.__new__" =true∧ExK K C):=by
 have e:=zez (congrArg (fun z=>z.2.2.2.2.1) S) h
 unfold zpm at e
 split at e
 ·rename_i C hC
  refine ⟨C,zj4 hC,fun hb=>?_⟩
  have hb:b=true:=hb
  subst hb
  have e:zi7 K C=true:=e
  unfold zi7 at e
  simp only [Bool.and_eq_true] at e
  obtain ⟨⟨⟨⟨⟨⟨⟨h1,h2⟩,h3⟩,h4⟩,h5⟩,h6⟩,h7⟩,h8⟩:=e
  exact ⟨h1,h2,beq_iff_eq.mp h3,zqu h4,beq_iff_eq.mp h5,beq_iff_eq.mp h6,beq_iff_eq.mp h7,beq_iff_eq.mp h8⟩
 ·cases e
theorem tab_at (S:seenK A K=good p A) (i:Nat) {x y:Str} {v:Bool} {C B:Addr} (h:A.tab[i]? =some (x,y,v)) (hC:nsIn K mainGlobals x=some (some (.ref C))) (hB:nsIn K mainGlobals y=some (some (.ref B))):exmOne K (.ref C) (.ref B)=some v∧kitOne K (.ref C) (.ref B)=some v:=by
 have e:=zez (congrArg (fun z=>z.2.2.2.2.2.1) S) h
 dsimp only at e
 rw [hC,hB] at e
 have e:(exmOne K (.ref C) (.ref B)==some v && kitOne K (.ref C) (.ref B)==some v)=true:=e
 rw [Bool.and_eq_true] at e
 exact ⟨beq_iff_eq.mp e.1,beq_iff_eq.mp e.2⟩
theorem cls_at (S:seenK A K=good p A) (i:Nat) {c:Str×Nat×List (Str×Str×Nat)×List Str} (h:A.cls[i]? =some c): ∃C,ClsAt p K c C:=by
 have e:=zez (congrArg (fun z=>z.2.1) S) h
 unfold zmz at e
 split at e
 ·rename_i C hC
  simp only [Option.some.injEq,Prod.mk.injEq] at e
  obtain ⟨e1,e2,e3⟩:=e
  unfold zj2 at e2
  simp only [Bool.and_eq_true] at e2
  obtain ⟨⟨⟨⟨⟨h1,h2⟩,h3⟩,h4⟩,h5⟩,h6⟩:=e2
  refine ⟨C,zj4 hC,⟨h1,h2,h3,?_⟩,h5,h6,fun j m hm=>?_,fun j a ha=>?_⟩
  ·exact beq_iff_eq.mp h4
  ·exact zp3 (zez e1 hm)
  ·exact zqu (zez e3 ha)
 ·cases e
end
section
variable {K:Frag} {x qual:Str} {st:Stmt} {f:Addr} {fd:FuncData} {p1 p2 p3 p4 p5 p6 p7 p8:Str}
abbrev Bd (x qual:Str) (st:Stmt) (us:List Value) (r:List (Str×Value)):Prop:=∀(kV doc pm:Value) (an:Option Addr) (cdv ct:Value),bindArgs (fnOf x qual (zcu st) (yX st) (zw st) .none kV doc pm an cdv ct) ⟨us,[]⟩=pure r
theorem zck {us:List Value} {n:Nat} (h:us.length=n+1): ∃a r,us=a::r∧r.length=n:=by
 cases us with
 | nil=>cases h
 | cons a r=>exact ⟨a,r,rfl,by simpa using h⟩
theorem b1 (F:Fun K x qual st f fd) (h: ∀a,Bd x qual st [a] [(p1,a)]):Binds K fd [p1] []:=F.binds fun _ _ _ _ _ _ us h0=>by
 obtain ⟨a,u1,rfl,h1⟩:=zck h0
 obtain rfl:u1=[]:=List.eq_nil_of_length_eq_zero h1
 exact h _ _ _ _ _ _ _
theorem b2 (F:Fun K x qual st f fd) (h: ∀a b,Bd x qual st [a,b] [(p1,a),(p2,b)]):Binds K fd [p1,p2] []:=F.binds fun _ _ _ _ _ _ us h0=>by
 obtain ⟨a,u1,rfl,h1⟩:=zck h0
 obtain ⟨b,u2,rfl,h2⟩:=zck h1
 obtain rfl:u2=[]:=List.eq_nil_of_length_eq_zero h2
 exact h _ _ _ _ _ _ _ _
theorem b3 (F:Fun K x qual st f fd) (h: ∀a b c,Bd x qual st [a,b,c] [(p1,a),(p2,b),(p3,c)]):Binds K fd [p1,p2,p3] []:=F.binds fun _ _ _ _ _ _ us h0=>by
 obtain ⟨a,u1,rfl,h1⟩:=zck h0
 obtain ⟨b,u2,rfl,h2⟩:=zck h1
 obtain ⟨c,u3,rfl,h3⟩:=zck h2
 obtain rfl:u3=[]:=List.eq_nil_of_length_eq_zero h3
 exact h _ _ _ _ _ _ _ _ _
theorem b4 (F:Fun K x qual st f fd) (h: ∀a b c d,Bd x qual st [a,b,c,d] [(p1,a),(p2,b),(p3,c),(p4,d)]):Binds K fd [p1,p2,p3,p4] []:=F.binds fun _ _ _ _ _ _ us h0=>by
 obtain ⟨a,u1,rfl,h1⟩:=zck h0
 obtain ⟨b,u2,rfl,h2⟩:=zck h1
 obtain ⟨c,u3,rfl,h3⟩:=zck h2
 obtain ⟨d,u4,rfl,h4⟩:=zck h3
 obtain rfl:u4=[]:=List.eq_nil_of_length_eq_zero h4
 exact h _ _ _ _ _ _ _ _ _ _
theorem binds_law (F:Fun K x qual st f fd) (h: ∀a,Bd x qual st [a] [(p1,a)]) (s:Shared) (u:Value):BindsTo s fd ⟨[u],[]⟩ [(p1,u)]:=by
 obtain ⟨oc,od,kV,doc,pm,an,cdv,ct,osl,rfl,lk,hcd⟩:=F.ex
 exact .of_eq (h u _ _ _ _ _ _)
end
end L4
namespace L2
open PySem PySem.Spec PyProof.Rows
structure CloScope (N ps fs:List Str) (sc:Scope):Prop where
 kind:sc.kind= .function
 co:sc.isCoroutine=false
 gen:sc.isGenerator=false
 nd:N.Nodup
 pre:N.take (ps.length+fs.length)=ps++fs
 par: ∀x∈ps,sc.names.lookup x=some .local
 fre: ∀x∈fs,sc.names.lookup x=some .free
 nocell: ∀y∈sc.names,y.2≠ .cell
 onlyf: ∀y∈sc.names,y.2= .free→y.1∈fs
def cxC (CX:yu) (P:Program) (w:World) (K:PySem.W.Frag) (mg:Str→Option Value) (base:Heap) (N:List Str) (qual:Str) (scope:Scope) (f:Addr) (cd:Value) (cl:List (Str×Addr)) (A:Around) (outer:List Env) (s:Shared) (H:Hp) (E:XK):Cx where
 prog:=P
 w:=w
 K:=K
 mg:=mg
 base:=base
 A:=A.deeper (PySem.W.envX qual scope s.heap.objs.size f cd cl)
 N:=N
 s₀:=s
 H₀:=H
 env:=PySem.W.envX qual scope s.heap.objs.size f cd cl
 outer:=outer
 stack:=PySem.W.envX qual scope s.heap.objs.size f cd cl::outer
 ex:=[]
 calm:=true
 fn:=fun x=>(cl.lookup x).isNone
 pn:=[]
 xe:=fun e s'=>wpAny (model P w) (A.deeper (PySem.W.envX qual scope s.heap.objs.size f cd cl)) (leaving (PySem.W.envX qual scope s.heap.objs.size f cd cl) e) (fun _ s''=>CX outer H s E e s'') (fun e' s''=>CX outer H s E e' s'') s'
theorem zjc {x:Str} {v:Value}: ∀{l:List (Str×Value)},(l.map (·.1)).Nodup→(x,v)∈l→l.lookup x=some v
 | [],_,h=>by simp at h
 | (y,u)::r,nd,h=>by
  rw [List.map_cons,List.nodup_cons] at nd
  rw [List.lookup_cons]
  rcases List.mem_cons.mp h with e | e
  ·cases e;simp
  ·have hne:x≠y:=fun z=>nd.1 (by subst z;exact List.mem_map.mpr ⟨(x,v),e,rfl⟩)
   have:(x==y)=false:=by simpa using hne
   rw [this]
   exact zjc nd.2 e
theorem znv {x:Str} {v:Value} {l:List (Str×Value)} (nd:(l.map (·.1)).Nodup) (h:(x,v)∈l):l.reverse.lookup x=some v:=
 zjc (by rw [List.map_reverse];exact (List.reverse_perm _).nodup_iff.mpr nd) (List.mem_reverse.mpr h)
theorem zjn: ∀{ps:List Str} {us:List Value},ps.length=us.length→(ps.zip us).map (·.1)=ps
 | [],[],_=>rfl
 | [],_::_,h=>by simp at h
 | _::_,[],h=>by simp at h
 | p::ps,u::us,h=>by rw [List.zip_cons_cons,List.map_cons,zjn (by simpa using h)]
def Held (base:Heap) (cl:List (Str×Addr)) (fs:List Str) (ws:List V):Prop:=
 (∀x∈fs,∃c,cl.lookup x=some c)∧(∀x y c,cl.lookup x=some c→cl.lookup y=some c→x=y)∧
 ∀x c,cl.lookup x=some c→∃o u,base.get? c=some o∧o.data= .cell (some u)∧∀i:Nat,fs[i]? =some x→∃v,ws[i]? =some v∧RelV v u
theorem zkn {CX:yu} {P:Program} {w:World} {K:PySem.W.Frag} {mg:Str→Option Value} {base:Heap} {N ps fs:List Str} {qual:Str} {scope:Scope} {f:Addr} {cd:Value} {cl:List (Str×Addr)} {A:Around} {outer:List Env} {s:Shared} {H:Hp} {E:XK} {us:List Value} {vs ws:List V}
  (S:CloScope N ps fs scope) (hd:A.handled=none) (e0:Env0 P w K mg base A outer s H) (hl:vs.length=ps.length) (hw:ws.length=fs.length) (r:Vals vs us) (hc:Held base cl fs ws) {h1:Heap} {tk:Nat}
  (hns:h1.Ns s.heap.objs.size fun x=>(ps.zip us).reverse.lookup x) (hk: ∀b o,s.heap.get? b=some o→h1.get? b=some o):
  Inv (cxC CX P w K mg base N qual scope f cd cl A outer s H E) [] (start N (vs++ws)) H {s with heap:=h1,toks:=tk}:=by
 have hpl:ps.length+fs.length≤N.length:=by have:=congrArg List.length S.pre;rw [List.length_take,List.length_append] at this;omega
 have noA: ∀b:Addr,b∉(cxC CX P w K mg base N qual scope f cd cl A outer s H E).ex:=fun b z=>absurd (show b∈([]:List Addr) from z) (by simp)
 have hu:us.length=ps.length:=by rw [←r.length];exact hl
 have isc: ∀x c,cl.lookup x=some c→∃u,h1.IsCell c (some u)∧(∀i:Nat,fs[i]? =some x→∃v,ws[i]? =some v∧RelV v u)∧H c=none:=fun x c e=>by
  obtain ⟨o,u,e1,e2,e3⟩:=hc.2.2 x c e
  exact ⟨u,⟨o,hk _ _ (e0.bs c o e1).1,e2⟩,e3,(e0.bs c o e1).2⟩
 refine ⟨⟨e0.mod,S.kind,rfl,rfl,Nat.le_refl _,fun y z c h1 h2=>hc.2.1 y z c h1 h2,fun y hy=>?_,fun y c hf h=>?_,fun _=>hd,Around.frames_deeper e0.frames,.inr ⟨rfl,rfl⟩,fun b z=>absurd z (noA b),e0.bs,e0.bsz,fun b _ _=>noA b,fun b z=>absurd z (noA b),e0.funs,e0.frf⟩,
  rfl,e0.bare,Un.kept hk,⟨_,hns,fun i y v h1 h2 h3=>?_⟩,fun y c h=>let ⟨u,q,_⟩:=isc y c h;⟨_,q⟩,e0.hok.fresh (Nat.le_refl _),fun y c h=>let ⟨_,_,_,q⟩:=isc y c h;q,fun p hp=>absurd (show p∈([]:List (Addr×Obj)) from hp) (by simp),e0.hok.kept hk,?_⟩
 ·have hy:scope.names.lookup y=some .cell∨scope.names.lookup y=some .free:=hy
  rcases hy with hy | hy
  ·exact absurd rfl (S.nocell _ (PySem.mem_of_lookup hy))
  ·exact hc.1 y (S.onlyf _ (PySem.mem_of_lookup hy) rfl)
 ·have hf:(cl.lookup y).isNone=true:=hf
  have h:cl.lookup y=some c:=h
  rw [h] at hf;cases hf
 ·have hi:i < (vs++ws).length:=by
   unfold start at h2
   by_cases hi:i < (vs++ws).length
   ·exact hi
   ·rw [List.getElem?_append_right (by simpa using hi)] at h2
    rw [List.getElem?_replicate] at h2
    split at h2 <;> cases h2
  have ha:(vs++ws)[i]? =some v:=by
   unfold start at h2
   rw [List.getElem?_append_left (by simpa using hi),List.getElem?_map] at h2
   cases e:(vs++ws)[i]? with
   | none=>rw [e] at h2;cases h2
   | some a=>rw [e] at h2;cases h2;rfl
  have hp:(ps++fs)[i]? =some y:=by
   rw [←S.pre,List.getElem?_take_of_lt (by rw [List.length_append] at hi;omega)];exact h1
  by_cases hlt:i < vs.length
  ·rw [List.getElem?_append_left hlt] at ha
   rw [List.getElem?_append_left (by omega)] at hp
   obtain ⟨u,hu',rv⟩:=r.get ha
   refine ⟨u,rv,.inl ⟨S.par y (List.mem_of_getElem? hp),?_⟩⟩
   have ndP:ps.Nodup:=by
    have:=S.nd.sublist (List.take_sublist (ps.length+fs.length) N)
    rw [S.pre] at this
    exact (List.nodup_append.mp this).1
   refine znv (by rw [zjn hu.symm];exact ndP) ?_
   refine List.mem_of_getElem? (i:=i) ?_
   rw [List.getElem?_zip_eq_some]
   exact ⟨hp,hu'⟩
  ·rw [List.getElem?_append_right (by omega)] at ha
   rw [List.getElem?_append_right (by omega),←hl] at hp
   obtain ⟨c,ec⟩:=hc.1 y (List.mem_of_getElem? hp)
   obtain ⟨u,q,e3,_⟩:=isc y c ec
   obtain ⟨v',hv',rv⟩:=e3 _ hp
   rw [ha] at hv';cases hv'
   exact ⟨u,rv,.inr ⟨.inr (S.fre y (List.mem_of_getElem? hp)),c,ec,q⟩⟩
 ·unfold start
  show _=N.length
  simp only [List.length_append,List.length_map,List.length_replicate]
  omega
theorem zsj {CX:yu} {P:Program} {w:World} {K:PySem.W.Frag} {mg:Str→Option Value} {base:Heap} {k:Nat} {f c':Addr} {name qual:Str} {params:Arguments} {body:List Stmt} {scope:Scope} {cl:List (Str×Addr)} {doc pm ctv:Value}
  {N ps fs:List Str} {ws:List V} {sp:Sp} (lk:base.get? f=some (PySem.W.fnMade name qual params body scope cl doc pm c' ctv)) (hcd:base.CodeRec (.ref c') qual) (S:CloScope N ps fs scope) (hw:ws.length=fs.length) (hc:Held base cl fs ws)
  (len: ∀vs H Q E,sp vs H Q E→vs.length=ps.length)
  (hbody: ∀(A:Around) (outer:List Env) (s:Shared) (H:Hp) (vs:List V) (Q:VK) (E:XK),Room k (A.deeper (PySem.W.envX qual scope s.heap.objs.size f (.ref c') cl))→sp vs H Q E→
   ∃t,z8 (cxC CX P w K mg base N qual scope f (.ref c') cl A outer s H E) body t∧t {nx:=fun _ H'=>Q .non H',rt:=Q} (start N (vs++ws)) H):
  FnOk P w K mg base CX (k+1) f (PySem.W.fnX name qual params body scope cl .none .none doc pm none (.ref c') ctv) ps sp:=by
 refine ⟨len,fun A outer s H args us vs Q E hr e0 hb r hsp=>?_⟩
 have hl:=len _ _ _ _ hsp
 have hu:us.length=ps.length:=by rw [←r.length];exact hl
 have kp: ∀b o,base.get? b=some o→s.heap.get? b=some o:=fun b o e=>(e0.bs b o e).1
 have lim:s.heap.NoLimit:=e0.mod.nolimit.keeps kp
 have cr:s.heap.CodeRec (.ref c') qual:=by
  obtain ⟨c,o,vs,t,e1,e2,e3,e4⟩:=hcd
  exact ⟨c,o,vs,t,e1,kp _ _ e2,e3,e4⟩
 refine codeAny_call_function hr.depth (kp _ _ lk) rfl S.co S.gen rfl cr (hb _ _ _ _ ?_)
 refine wpAny_newFunctionEnv S.nocell (fun y hy=>S.par _ (List.of_mem_zip (a:=y.1) (b:=y.2) hy).1) (fun h1 hns hsame=>?_) S.kind
 have hk: ∀b o,s.heap.get? b=some o→h1.get? b=some o:=fun b o e=>by
  rw [hsame.2 b (Nat.ne_of_lt (Heap.lt_size e))]
  exact Heap.get?_push_of_some _ e
 refine ⟨lim.keeps hk,codeAny_func ?_⟩
 obtain ⟨t,ht,hq⟩:=hbody A outer s H vs Q E (hr.deeper _) hsp
 have I:Inv (cxC CX P w K mg base N qual scope f (.ref c') cl A outer s H E) [] (start N (vs++ws)) H {s with heap:=h1,toks:=s.toks+(ps.zip us).length}:=zkn S hr.hd e0 hl hw r hc hns hk
 refine wpAny_mono (ht [] _ (start N (vs++ws)) H _ I hq) (fun fl s' hs=>?_) fun e s' hs=>hs
 have fin: ∀{σ':St} {H':Hp} {v:V} {u:Value},Inv (cxC CX P w K mg base N qual scope f (.ref c') cl A outer s H E) [] σ' H' s'→RelV v u→Q v H'→CE outer P w H s Q u s':=
  fun {σ' H' v u} J rv q=>⟨v,H',J.os,J.bare,J.base,J.hok,rv,q⟩
 cases fl with
 | ret u=>
  obtain ⟨v,σ',H',J,rv,q⟩:=hs
  exact fin J rv q
 | next=>
  obtain ⟨σ',H',J,q⟩:=hs
  exact fin (v:=V.non) (u:=Value.none) J rfl q
 | brk=>
  obtain ⟨_,_,_,q⟩:=hs
  exact False.elim q
 | cont=>
  obtain ⟨_,_,_,q⟩:=hs
  exact False.elim q
def fnO (f:Addr) (o:Obj):HO:= .ext fun h=>h.get? f=some o
def zrl (c:Addr) (qual:Str):HO:= .ext fun h=>h.CodeRec (.ref c) qual
def zi6 (c:Addr) (u:Value):HO:= .ext fun h=>h.IsCell c (some u)
theorem zr0 {P:Program} {w:World} {H:Hp} {h:Heap} {f:Addr} {o:Obj} (e:h.get? f=some o):ObjOk P w H h f (fnO f o):=⟨e,⟨o,e⟩,fun _ _ e k=>k _ e⟩
theorem zo8 {P:Program} {w:World} {H:Hp} {h:Heap} {c:Addr} {q:Str} (e:h.CodeRec (.ref c) q):ObjOk P w H h c (zrl c q):=by
 refine ⟨e,?_,fun h1 h2 z k=>?_⟩
 ·obtain ⟨c',o,vs,t,e1,e2,_⟩:=e;cases e1;exact ⟨o,e2⟩
 ·obtain ⟨c',o,vs,t,e1,e2,e3⟩:=z;cases e1;exact ⟨c,o,vs,t,rfl,k _ e2,e3⟩
theorem zjo {P:Program} {w:World} {H:Hp} {h:Heap} {c:Addr} {u:Value} (e:h.IsCell c (some u)):ObjOk P w H h c (zi6 c u):=by
 refine ⟨e,?_,fun h1 h2 z k=>?_⟩
 ·obtain ⟨o,e1,_⟩:=e;exact ⟨o,e1⟩
 ·obtain ⟨o,e1,e2⟩:=z;exact ⟨o,k _ e1,e2⟩
theorem CodeHd.keeps {h h':Heap} {c P:Addr} (x:PySem.W.CodeHd h c P) (k: ∀b o,h.get? b=some o→h'.get? b=some o):PySem.W.CodeHd h' c P:=by
 obtain ⟨o,vs,fl,tf,fs,tg,inF,tx,tt,e,r⟩:=x
 exact ⟨o,vs,fl,tf,fs,tg,inF,tx,tt,k _ _ e,r⟩
theorem BuiltinsAt.keeps {h h':Heap} {mg:Str→Option Value} {P:Addr} (x:h.BuiltinsAt mg P) (k: ∀b o,h.get? b=some o→h'.get? b=some o):h'.BuiltinsAt mg P:=by
 obtain ⟨bm,o,e1,e2,e3,e4,e5,r⟩:=x
 exact ⟨bm,o,e1,e2,e3,e4,k _ _ e5,r⟩
abbrev zG (H:Hp) (P c f:Addr) (ps:Array Value) (q:Str) (o:Obj):Hp:=zg (zg (zg H P (.tbl ps)) c (zrl c q)) f (fnO f o)
section
variable {X:Cx} {pins:List (Addr×Obj)} {σ:St} {H:Hp} {s:Shared}
theorem zp9 {P c f:Addr} {ps:Array Value} {q:Str} {o:Obj} {h':Heap} {tk:Nat} (I:Inv X pins σ H s) (hP:H P=some (.tbl #[])) (ex:Heap.ExtBut P s.heap h') (hc:s.heap.objs.size≤c) (hlt:c < h'.objs.size) (hcr:h'.CodeRec (.ref c) q)
  (ht:h'.get? P=some (PySem.W.tabObj ps)) (hf:f=h'.objs.size) (ho:o.isFreed=false):Inv X pins σ (zG H P c f ps q o) {s with heap:=h'.push o,toks:=tk}∧H f=none∧H c=none∧f≠c∧f≠P∧c≠P:=by
 subst hf
 have szP:P < s.heap.objs.size:=I.hok.lt hP
 have szh:s.heap.objs.size≤h'.objs.size:=Nat.le_of_lt (Nat.lt_of_le_of_lt hc hlt)
 have nf:H h'.objs.size=none:=I.hok.fresh szh
 have nc:H c=none:=I.hok.fresh hc
 have fc:h'.objs.size≠c:=Nat.ne_of_gt hlt
 have fP:h'.objs.size≠P:=Nat.ne_of_gt (Nat.lt_of_lt_of_le szP szh)
 have cP:c≠P:=Nat.ne_of_gt (Nat.lt_of_lt_of_le szP hc)
 have old: ∀{b:Addr} {u:HO},H b=some u→u≠ .tbl #[]→zG H P c h'.objs.size ps q o b=some u:=fun {b u} e n=>by
  unfold zG
  rw [zl (zT e nf),zl (zT e nc),zl (zus e hP n)];exact e
 have kp: ∀b ob,b≠P→s.heap.get? b=some ob→(h'.push o).get? b=some ob:=fun b ob n e=>Heap.get?_push_of_some _ (ex b ob n e)
 have eP:(h'.push o).get? P=some (PySem.W.tabObj ps):=Heap.get?_push_of_some _ ht
 have ef:(h'.push o).get? h'.objs.size=some o:=Heap.get?_push_size h' ho
 have un:Un X.fs [] H (zG H P c h'.objs.size ps q o) s.heap (h'.push o):=by
  refine ⟨fun b ob e n _ _=>kp b ob (fun z=>by subst z;rw [hP] at n;cases n) e,fun b ob e n _ _=>⟨ob.slots,kp b ob (fun z=>by subst z;rw [hP] at n;cases n) e⟩,fun b ob e n _=>?_,fun b ob e _=>?_,fun b xs e=>old e (by intro z;cases z),fun b ob u e=>old e (by intro z;cases z),fun b qs e=>?_⟩
  ·have hb:=Heap.lt_size e
   unfold zG
   rw [zl (Nat.ne_of_lt (Nat.lt_of_lt_of_le hb szh)),zl (Nat.ne_of_lt (Nat.lt_of_lt_of_le hb hc)),zl (fun z=>by subst z;rw [hP] at n;cases n)];exact n
  ·by_cases hb:b=P
   ·subst hb;exact ⟨_,eP⟩
   ·exact ⟨_,kp b ob hb e⟩
  ·by_cases hb:b=P
   ·subst hb
    rw [hP] at e;cases e
    exact ⟨ps,by unfold zG;rw [zl (Ne.symm fP),zl (Ne.symm cP),zI];simp⟩
   ·exact ⟨#[],by unfold zG;rw [zl (zT e nf),zl (zT e nc),zl hb,e];simp⟩
 have hok:HOk X.prog X.w (zG H P c h'.objs.size ps q o) (h'.push o):=fun b u e=>by
  unfold zG at e
  by_cases b1:b=h'.objs.size
  ·subst b1;rw [zI] at e;cases e;exact zr0 ef
  ·rw [zl b1] at e
   by_cases b2:b=c
   ·subst b2;rw [zI] at e;cases e
    obtain ⟨c',oc,vs,t,e1,e2,e3⟩:=hcr
    exact zo8 ⟨c',oc,vs,t,e1,Heap.get?_push_of_some _ e2,e3⟩
   ·rw [zl b2] at e
    by_cases b3:b=P
    ·subst b3;rw [zI] at e;cases e;exact eP
    ·rw [zl b3] at e
     refine (I.hok b u e).stay (fun b' v hb' r=>kp b' v ?_ r) (fun b' r=>old r (by intro z;cases z)) fun b' xs r=>old r (by intro z;cases z)
     rcases hb' with rfl | hb'
     ·exact b3
     ·intro z;subst z;rw [hP] at hb';cases hb'
 exact ⟨I.un un hok,nf,nc,fc,fP,cP⟩
def tDef (P:Addr) (j:Nat) (q:Str) (mk:Value→Addr→Value→Obj):TS:=fun D σ H=>H P=some (.tbl #[])∧∀f c doc ctv ps,H f=none→H c=none→f≠c→f≠P→c≠P→D.nx (σ.set j (some (.ref f))) (zG H P c f ps q (mk doc c ctv))
theorem zti {P c:Addr} {j:Nat} {name:Str} {params:Arguments} {body:List Stmt} {scope:Scope} {pos:Pos} {clos:List (Str×Addr)} (hN:X.N.Nodup) (hi:X.N[j]? =some name) (hx:Loc X.env.scope name) (hcl:closureFor scope X.env=pure clos) (hcd:X.env.code= .ref c) (hC:PySem.W.CodeHd X.base c P) (hB:X.base.BuiltinsAt X.mg P) (hm:mainGlobals≠P)
  (hd:params.defaults=[]) (hkd:params.kw_defaults=[]) (hann:annTrees params none X.env=[]) (hf:X.fn name=true∨X.env.scope.names.lookup name=some .local):
  PS X (.FunctionDef name params body [] none [] scope none name pos) (tDef P j (qualnameIn X.env name name) fun doc c' ctv=>PySem.W.fnMade name (qualnameIn X.env name name) params body scope clos doc ((X.mg "__name__").getD .none) c' ctv):=by
 intro pins s σ H D I ⟨hP,h⟩
 refine PySem.W.nestDef_K hd hkd hann ?_
 have hb:=I.bk
 refine PySem.W.makeFunction_K (c:=c) (P:=P) (ps:= #[]) (mg:=X.mg) hcl I.ok.glob (I.mod.glob.keeps hb) hcd (CodeHd.keeps hC hb) (show s.heap.get? P=_ from I.hok P _ hP) trivial rfl hm (BuiltinsAt.keeps hB hb) fun c' ctv doc h' tk ex hc hlt hcr ht=>?_
 obtain ⟨I2,nf,nc,fc,fP,cP⟩:=zp9 (o:=PySem.W.fnMade name (qualnameIn X.env name name) params body scope clos doc ((X.mg "__name__").getD .none) c' ctv) (tk:=tk) I hP ex hc hlt hcr ht rfl rfl
 exact zfe I2 hN hi hx (v:= .ref h'.objs.size) rfl (fun s2 I3=>⟨_,_,I3,h _ c' doc ctv _ nf nc fc fP cP⟩) hf
end
abbrev zhn (H:Hp) (T c f a1 a2:Addr) (ps:Array Value) (q:Str) (o:Obj) (u1 u2:Value):Hp:=zg (zg (zG H T c f ps q o) a1 (zi6 a1 u1)) a2 (zi6 a2 u2)
def spT (T:Addr) (q:Str) (mk:Addr→Addr→Value→Addr→Value→Obj):Sp:=fun vs H Q _=> ∃v1 v2,vs=[v1,v2]∧H T=some (.tbl #[])∧
 ∀f c a1 a2 doc ctv ps u1 u2,RelV v1 u1→RelV v2 u2→H f=none→H c=none→H a1=none→H a2=none→f≠c→f≠a1→f≠a2→c≠a1→c≠a2→a1≠a2→
  Q (.ref f) (zhn H T c f a1 a2 ps q (mk a1 a2 doc c ctv) u1 u2)
theorem zn5 {CX:yu} {P:Program} {w:World} {K:PySem.W.Frag} {mg:Str→Option Value} {base:Heap} {x qual x1 x2 g:Str} {st:Stmt} {f c T:Addr} {fd:FuncData} {k:Nat} {params:Arguments} {body:List Stmt} {gsc:Scope} {pos p1 p2:Pos}
  (F:Fun K x qual st f fd) (S:FnScope [x1,x2,g] [x1,x2] (zw st)) (hbd:yX st=[.FunctionDef g params body [] none [] gsc none g pos,.Return (some (.Name g p1)) p2]) (hcode:fd.code= .ref c)
  (k1:(zw st).names.lookup x1=some .cell) (k2:(zw st).names.lookup x2=some .cell) (kg:(zw st).names.lookup g=some .local) (hcs: ∀L,cellsFrom (L+1) (zw st).names []=[(x2,L+2),(x1,L+1)])
  (hcl: ∀L a cd,closureFor gsc (envOfC qual (zw st) L a cd)=pure [(x1,L+1),(x2,L+2)]) (hC:PySem.W.CodeHd base c T) (hB:base.BuiltinsAt mg T) (hm:mainGlobals≠T)
  (hd:params.defaults=[]) (hkd:params.kw_defaults=[]) (hann: ∀e,annTrees params none e=[]) (hx1:(g==("__debug__" :Str))=false) (hx2:(g==("__classdict__" :Str))=false) (hx3:(x2==x1)=false):
  FnOk P w K mg base CX (k+1) f fd [x1,x2] (spT T (qual++".<locals>." ++g) fun a1 a2 doc c' ctv=>PySem.W.fnMade g (qual++".<locals>." ++g) params body gsc [(x1,a1),(x2,a2)] doc ((mg "__name__").getD .none) c' ctv):=by
 obtain ⟨oc,od,kV,doc,pm,an,cdv,ct,osl,rfl,lk,hcd⟩:=F.ex
 have hcode:cdv= .ref c:=hcode
 subst hcode
 have len: ∀vs H Q E,spT T (qual++".<locals>." ++g) (fun a1 a2 doc c' ctv=>PySem.W.fnMade g (qual++".<locals>." ++g) params body gsc [(x1,a1),(x2,a2)] doc ((mg "__name__").getD .none) c' ctv) vs H Q E→vs.length=[x1,x2].length:=fun vs H Q E ⟨_,_,e,_⟩=>by rw [e];rfl
 refine ⟨len,fun A outer s H args us vs Q E hr e0 hb r hsp=>?_⟩
 have hl:=len _ _ _ _ hsp
 have KX:K.In s.heap:=e0.mod.kin.keeps fun b o e=>(e0.bs b o e).1
 have lim:s.heap.NoLimit:=e0.mod.nolimit.keeps fun b o e=>(e0.bs b o e).1
 have hkind: ∀y∈[x1,x2].zip us,(zw st).names.lookup y.1=some .local∨((zw st).names.lookup y.1=some .cell∧((cellsFrom (s.heap.objs.size+1) (zw st).names []).lookup y.1).isSome=true):=fun ⟨n,v⟩ hy=>by
  rcases S.par n (List.of_mem_zip hy).1 with q | q
  ·exact .inl q
  ·exact .inr ⟨q,PySem.W.cellsFrom_some _ _ _ (.inl q)⟩
 refine codeAny_call_function hr.depth (KX _ _ lk) rfl S.co S.gen rfl (PySem.W.codeRec_of KX hcd) (hb _ _ _ _ ?_)
 refine wpAny_newFunctionEnv_cells S.kind hkind fun env he s1 x=>?_
 subst he
 refine ⟨lim.keeps x.toInCall.keep,codeAny_func ?_⟩
 have I:Inv (zU CX P w K mg base [x1,x2,g] qual (zw st) f (.ref c) A outer s H E) [] (start [x1,x2,g] vs) H s1:=zhm S hr.hd e0 hl r x
 obtain ⟨v1,v2,rfl,hT,hq⟩:=hsp
 have ndN:[x1,x2,g].Nodup:=S.nd
 rw [hbd]
 have hdef:=zti (X:=zU CX P w K mg base [x1,x2,g] qual (zw st) f (.ref c) A outer s H E) (P:=T) (c:=c) (j:=2) (name:=g) (params:=params) (body:=body) (scope:=gsc) (pos:=pos) (clos:=[(x1,s.heap.objs.size+1),(x2,s.heap.objs.size+2)]) ndN rfl (.inl kg) (hcl _ _ _) rfl hC hB hm hd hkd (hann _) (.inr kg)
 have hqn:qualnameIn (zU CX P w K mg base [x1,x2,g] qual (zw st) f (.ref c) A outer s H E).env g g=qual++".<locals>." ++g:=by
  unfold qualnameIn
  rw [if_neg]
  ·rfl
  ·show ¬((zw st).names.lookup g==_)=true
   rw [kg];decide
 rw [hqn] at hdef
 refine wpAny_execs_cons (zo (hdef [] s1 _ H ⟨fun σ' H'=> ∃f' c' doc ctv ps,σ'=(start [x1,x2,g] [v1,v2]).set 2 (some (.ref f'))∧H f'=none∧H c'=none∧f'≠c'∧f'≠T∧c'≠T∧H'=zG H T c' f' ps (qual++".<locals>." ++g) (PySem.W.fnMade g (qual++".<locals>." ++g) params body gsc [(x1,s.heap.objs.size+1),(x2,s.heap.objs.size+2)] doc ((mg "__name__").getD .none) c' ctv),fun _ _=>False,fun _ _=>False,fun _ _=>False⟩ I ⟨hT,fun f' c' doc ctv ps a b d e h=>⟨f',c',doc,ctv,ps,rfl,a,b,d,e,h,rfl⟩⟩) fun fl s2 q=>?_)
 cases fl with
 | ret u=>obtain ⟨_,_,_,_,_,z⟩:=q;exact z.elim
 | brk=>obtain ⟨_,_,_,z⟩:=q;exact z.elim
 | cont=>obtain ⟨_,_,_,z⟩:=q;exact z.elim
 | next=>
  obtain ⟨σ',H',I2,f',c',doc',ctv',ps,rfl,nf,nc,fc,fT,cT,rfl⟩:=q
  refine wpAny_execs_cons (wpAny_Return_some (zo (zk7 (X:=zU CX P w K mg base [x1,x2,g] qual (zw st) f (.ref c) A outer s H E) (i:=2) (x:=g) rfl (.inl kg) hx1 hx2 [] s2 _ _ (fun v H''=>v= .ref f'∧H''=zG H T c' f' ps (qual++".<locals>." ++g) (PySem.W.fnMade g (qual++".<locals>." ++g) params body gsc [(x1,s.heap.objs.size+1),(x2,s.heap.objs.size+2)] doc' ((mg "__name__").getD .none) c' ctv')) I2 ⟨.ref f',rfl,rfl,rfl⟩) fun u s3 ⟨v,H3,I3,rv,ev,eH⟩=>?_))
  subst ev;subst eH
  obtain rfl:u= .ref f':=rv
  obtain ⟨m,hn,hl3⟩:=id I3.loc
  obtain ⟨u1,r1,l1⟩:=hl3 0 x1 v1 rfl rfl (.inr (.inl k1))
  obtain ⟨u2,r2,l2⟩:=hl3 1 x2 v2 rfl rfl (.inr (.inl k2))
  have lk1:(cellsFrom (s.heap.objs.size+1) (zw st).names []).lookup x1=some (s.heap.objs.size+1):=by
   rw [hcs,List.lookup_cons,show (x1==x2)=false from by rw [BEq.comm];exact hx3]
   simp
  have lk2:(cellsFrom (s.heap.objs.size+1) (zw st).names []).lookup x2=some (s.heap.objs.size+2):=by
   rw [hcs,List.lookup_cons];simp
  have ic1:s3.heap.IsCell (s.heap.objs.size+1) (some u1):=by
   rcases l1 with ⟨z,_⟩ | ⟨_,d,e,z⟩
   ·have z:(zw st).names.lookup x1=some .local:=z
    rw [k1] at z;cases z
   ·have e:(cellsFrom (s.heap.objs.size+1) (zw st).names []).lookup x1=some d:=e
    rw [lk1] at e;cases e;exact z
  have ic2:s3.heap.IsCell (s.heap.objs.size+2) (some u2):=by
   rcases l2 with ⟨z,_⟩ | ⟨_,d,e,z⟩
   ·have z:(zw st).names.lookup x2=some .local:=z
    rw [k2] at z;cases z
   ·have e:(cellsFrom (s.heap.objs.size+1) (zw st).names []).lookup x2=some d:=e
    rw [lk2] at e;cases e;exact z
  have n1:=I3.freeC x1 _ lk1
  have n2:=I3.freeC x2 _ lk2
  have h1:H (s.heap.objs.size+1)=none:=e0.hok.fresh (Nat.le_succ _)
  have h2:H (s.heap.objs.size+2)=none:=e0.hok.fresh (Nat.le_add_right _ 2)
  have f1:f'≠s.heap.objs.size+1:=fun z=>by subst z;rw [show zG H T c' _ ps _ _ _=_ from zI] at n1;cases n1
  have f2:f'≠s.heap.objs.size+2:=fun z=>by subst z;rw [show zG H T c' _ ps _ _ _=_ from zI] at n2;cases n2
  have c1:c'≠s.heap.objs.size+1:=fun z=>by subst z;unfold zG at n1;rw [zl (Ne.symm fc),zI] at n1;cases n1
  have c2:c'≠s.heap.objs.size+2:=fun z=>by subst z;unfold zG at n2;rw [zl (Ne.symm fc),zI] at n2;cases n2
  have a12:(s.heap.objs.size+1:Addr)≠s.heap.objs.size+2:=Nat.ne_of_lt (Nat.lt_succ_self _)
  have Qf:=hq f' c' (s.heap.objs.size+1) (s.heap.objs.size+2) doc' ctv' ps u1 u2 r1 r2 nf nc h1 h2 fc f1 f2 c1 c2 a12
  have u:=I3.base
  have old: ∀{b:Addr} {o:HO},zG H T c' f' ps (qual++".<locals>." ++g) (PySem.W.fnMade g (qual++".<locals>." ++g) params body gsc [(x1,s.heap.objs.size+1),(x2,s.heap.objs.size+2)] doc' ((mg "__name__").getD .none) c' ctv') b=some o→zhn H T c' f' (s.heap.objs.size+1) (s.heap.objs.size+2) ps (qual++".<locals>." ++g) (PySem.W.fnMade g (qual++".<locals>." ++g) params body gsc [(x1,s.heap.objs.size+1),(x2,s.heap.objs.size+2)] doc' ((mg "__name__").getD .none) c' ctv') u1 u2 b=some o:=fun {b o} e=>by
   unfold zhn
   rw [zl (zT e n2),zl (zT e n1)];exact e
  refine ⟨.ref f',_,I3.os,I3.bare,⟨u.keep,u.slot,fun b o e n hx=>?_,u.there,fun b xs e=>old (u.tups b xs e),fun b o uu e=>old (u.frzs b o uu e),fun b qs e=>let ⟨more,z⟩:=u.tbls b qs e;⟨more,old z⟩⟩,fun b o e=>?_,rfl,Qf⟩
  ·have hbz:=Heap.lt_size e
   unfold zhn
   rw [zl (Nat.ne_of_lt (Nat.lt_of_lt_of_le hbz (Nat.le_add_right _ 2))),zl (Nat.ne_of_lt (Nat.lt_of_lt_of_le hbz (Nat.le_succ _)))]
   exact u.free b o e n hx
  ·have e:zg (zg (zG H T c' f' ps (qual++".<locals>." ++g) (PySem.W.fnMade g (qual++".<locals>." ++g) params body gsc [(x1,s.heap.objs.size+1),(x2,s.heap.objs.size+2)] doc' ((mg "__name__").getD .none) c' ctv')) (s.heap.objs.size+1) (zi6 (s.heap.objs.size+1) u1)) (s.heap.objs.size+2) (zi6 (s.heap.objs.size+2) u2) b=some o:=e
   by_cases b2:b=s.heap.objs.size+2
   ·subst b2;rw [zI] at e;cases e;exact zjo ic2
   ·rw [zl b2] at e
    by_cases b1:b=s.heap.objs.size+1
    ·subst b1;rw [zI] at e;cases e;exact zjo ic1
    ·rw [zl b1] at e
     exact (I3.hok b o e).stay (fun _ _ _ q=>q) (fun _ q=>old q) fun _ _ q=>old q
theorem ztr {h base base':Heap}: ∀{l:List Env},h.FunFrames base l→(∀b∈zO l,base'.get? b=none)→h.FunFrames base' l
 | [],_,_=>trivial
 | e::r,x,k=>by
  unfold PySem.Heap.FunFrames at x ⊢
  obtain ⟨x1,⟨L,o,e1,e2,e3⟩,x3⟩:=x
  refine ⟨x1,⟨L,o,e1,k L ?_,e3⟩,ztr x3 fun b hb=>k b ?_⟩
  ·unfold zO;rw [List.filterMap_cons,e1];exact List.mem_cons_self
  ·unfold zO at hb ⊢;rw [List.filterMap_cons,e1];exact List.mem_cons_of_mem _ hb
theorem Mod.keeps {K:PySem.W.Frag} {mg:Str→Option Value} {base base':Heap} (m:Mod K mg base) (k: ∀b o,base.get? b=some o→base'.get? b=some o):Mod K mg base':=
 ⟨m.kin.keeps k,m.glob.keeps k,let ⟨mb,h1,h2⟩:=m.blt;⟨mb,h1.keeps k,h2⟩,m.nolimit.keeps k⟩
section
variable {X:Cx} {CX:yu} {k:Nat} {f C:Addr} {fd:FuncData} {ps:List Str} {sp:Sp} {E:XK} {x m:Str} {p pos apos:Pos} {e o:Expr} {es:List Expr} {ta:TE} {t:TA} {i:Nat} {σ₀:St}
theorem zoj (F:FnOk X.prog X.w X.K X.mg X.base CX k f fd ps sp) (hr:Room k X.A) (hN:X.N[i]? =some x) (hv:Vis X.env.scope x) {ob:Obj} (hf:X.base.get? f=some ob) (hfd:ob.data= .func fd) (hb: ∀(s:Shared) (us:List Value),us.length=ps.length→BindsTo s fd ⟨us,[]⟩ (ps.zip us)) (hx:yO CX X E)
  (ha:PA X (e::es) t) (hd:(x==("__debug__" :Str))=false:=by decide) (hcd:(x==("__classdict__" :Str))=false:=by decide) (he:starEach (e::es) X.env=(false,eval e X.env)::starEach es X.env:=by rfl) (hpl:(backTo pos (starEach es X.env)).any (·.1)=false:=by rfl):
  PE X (.Call (.Name x p) (e::es) [] pos) (fun σ H Q=>σ[i]? =some (some (.ref f))∧zns sp [] E t σ H Q):=by
 intro pins s σ H Q I ⟨hσ,h⟩
 have at_: ∀{s:Shared} {H:Hp},Inv X pins σ H s→PySem.W.FnAt f s.heap:=fun I=>by
  obtain ⟨oc,od,da,sl⟩:=ob
  have hfd:da=_:=hfd
  subst hfd
  exact ⟨oc,od,fd,sl,I.bk _ _ hf⟩
 refine wpAny_Call_Name_kw (zo (zk7 hN hv hd hcd pins s σ H (fun v H'=>v= .ref f∧H'=H) I ⟨_,hσ,rfl,rfl⟩) fun u s0 ⟨v,H0,I0,rv,e1,e2⟩=>?_)
 subst e1;subst e2
 obtain rfl:u= .ref f:=rv
 refine PySem.W.callWith_F (at_ I0) (zo (ha pos pins s0 σ H0 _ I0 h) fun us s1 ⟨vs,H1,I1,r,q⟩=>⟨at_ I1,?_⟩) he hpl
 have q:sp (vs++[]) H1 Q E:=q
 rw [List.append_nil] at q
 have hl:us.length=ps.length:=by rw [←r.length];exact F.len _ _ _ _ q
 refine wpAny_call (codeAny_mono (F.run X.A X.stack s1 H1 ⟨us,[]⟩ us vs Q E hr I1.env0 (hb s1 us hl) r q) fun r s' hq=>?_)
 match r,hq with
 | .error e,hq=>exact hx pins σ H1 s1 e s' I1 hq
 | .ok (.ret u),hq=>exact I1.after hq
 | .ok .next,hq=>exact False.elim hq
 | .ok .brk,hq=>exact False.elim hq
 | .ok .cont,hq=>exact False.elim hq
end
structure Mdf where
 f:Addr
 c:Addr
 a1:Addr
 a2:Addr
 u1:Value
 u2:Value
 w1:V
 w2:V
 o:Obj
structure Mdf.In (M:Mdf) (q:Str) (base:Heap):Prop where
 f:base.get? M.f=some M.o
 c:base.CodeRec (.ref M.c) q
 c1:base.IsCell M.a1 (some M.u1)
 c2:base.IsCell M.a2 (some M.u2)
def Mdf.has (M:Mdf) (b:Addr):Prop:=b=M.f∨b=M.c∨b=M.a1∨b=M.a2
structure Mdf.At (M:Mdf) (q:Str) (H:Hp):Prop where
 f:H M.f=some (fnO M.f M.o)
 c:H M.c=some (zrl M.c q)
 c1:H M.a1=some (zi6 M.a1 M.u1)
 c2:H M.a2=some (zi6 M.a2 M.u2)
open Classical in
def Mdf.off (M:Mdf) (H:Hp):Hp:=fun b=>if M.has b then none else H b
theorem Mdf.off_ne {M:Mdf} {H:Hp} {b:Addr} (n: ¬M.has b):M.off H b=H b:=by unfold Mdf.off;rw [if_neg n]
theorem Mdf.off_in {M:Mdf} {H:Hp} {b:Addr} (n:M.has b):M.off H b=none:=by unfold Mdf.off;rw [if_pos n]
theorem Mdf.At.ext {M:Mdf} {q:Str} {H:Hp} (x:M.At q H) {b:Addr} (n:M.has b): ∃φ,H b=some (.ext φ):=by
 rcases n with rfl | rfl | rfl | rfl
 ·exact ⟨_,x.f⟩
 ·exact ⟨_,x.c⟩
 ·exact ⟨_,x.c1⟩
 ·exact ⟨_,x.c2⟩
theorem Mdf.At.stays {M:Mdf} {q:Str} {H:Hp} (x:M.At q H) {b:Addr} {u:HO} (e:H b=some u) (n: ∀φ,u≠ .ext φ):M.off H b=some u:=by
 rw [Mdf.off_ne fun z=>by obtain ⟨φ,h⟩:=x.ext z;rw [e] at h;cases h;exact n φ rfl];exact e
theorem Mdf.off_none {M:Mdf} {H:Hp} {b:Addr} (e:H b=none):M.off H b=none:=by
 unfold Mdf.off;split <;> first | rfl | exact e
theorem Un.off {M:Mdf} {q:Str} {fs ex:List Addr} {H H':Hp} {h h':Heap} (x:M.At q H) (u:Un fs ex (M.off H) H' h h'):Un fs ex H H' h h':=
 ⟨fun b o e n=>u.keep b o e (Mdf.off_none n),fun b o e n=>u.slot b o e (Mdf.off_none n),fun b o e n=>u.free b o e (Mdf.off_none n),u.there,fun b xs e=>u.tups b xs (x.stays e (by intro φ z;cases z)),fun b o v e=>u.frzs b o v (x.stays e (by intro φ z;cases z)),fun b qs e=>u.tbls b qs (x.stays e (by intro φ z;cases z))⟩
section
variable {X:Cx} {k:Nat} {f:Addr} {fd:FuncData} {ps:List Str} {sp:Mdf→Sp} {E:XK} {x:Str} {p pos:Pos} {e:Expr} {es:List Expr} {t:TA} {σ₀:St} {q:Str} {M:Mdf}
open Classical in
theorem zpg {pins:List (Addr×Obj)} {H:Hp} {s:Shared} {Q:VK} {us:List Value} {vs:List V} (F: ∀base,Mod X.K X.mg base→M.In q base→FnOk X.prog X.w X.K X.mg base (XT X.prog X.w) k f fd ps (sp M)) (hr:Room k X.A) (hb:Binds X.K fd ps []) (hx:zg6 (XT X.prog X.w) X σ₀ E)
  (I:Inv X pins σ₀ H s) (r:Vals vs us) (ha:M.At q H) (h:sp M vs (M.off H) Q E):wpAny (model X.prog X.w) X.A (call (.ref f) us) (EP X pins σ₀ Q) X.xe s:=by
 let Hh:Hp:=fun b=>if (∃o,X.base.get? b=some o)∨M.has b then none else some (.own b)
 have inb: ∀{b o},s.heap.get? b=some o→(∃o,X.base.get? b=some o)∨M.has b→(zM s.heap Hh).get? b=some o:=fun e n=>zjh e (if_pos n)
 have outb: ∀{b o},(zM s.heap Hh).get? b=some o→s.heap.get? b=some o∧((∃o,X.base.get? b=some o)∨M.has b):=fun {b o} e=>by
  obtain ⟨h1,h2⟩:=znk e
  refine ⟨h1,Classical.byContradiction fun n=>?_⟩
  have h2:(if (∃o,X.base.get? b=some o)∨M.has b then none else some (HO.own b))=none:=h2
  rw [if_neg n] at h2;cases h2
 have hbk: ∀b o,X.base.get? b=some o→(zM s.heap Hh).get? b=some o:=fun b o e=>inb (I.bk b o e) (.inl ⟨o,e⟩)
 have md:Mod X.K X.mg (zM s.heap Hh):=I.mod.keeps hbk
 have min:M.In q (zM s.heap Hh):=by
  refine ⟨?_,?_,?_,?_⟩
  ·exact inb (I.hok _ _ ha.f).1 (.inr (.inl rfl))
  ·obtain ⟨c',o,ws,tk,e1,e2,e3⟩:=(I.hok _ _ ha.c).1
   cases e1
   exact ⟨M.c,o,ws,tk,rfl,inb e2 (.inr (.inr (.inl rfl))),e3⟩
  ·obtain ⟨o,e1,e2⟩:=(I.hok _ _ ha.c1).1
   exact ⟨o,inb e1 (.inr (.inr (.inr (.inl rfl)))),e2⟩
  ·obtain ⟨o,e1,e2⟩:=(I.hok _ _ ha.c2).1
   exact ⟨o,inb e1 (.inr (.inr (.inr (.inr rfl)))),e2⟩
 have z0:=I.env0
 have e0:Env0 X.prog X.w X.K X.mg (zM s.heap Hh) X.A X.stack s (M.off H):=by
  refine ⟨z0.frames,md,fun b o e=>?_,Nat.le_of_eq (zhh _ _),ztr z0.funs fun b hb=>?_,fun b hb=>Mdf.off_none (z0.frf b hb),fun b u e=>?_,z0.bare⟩
  ·obtain ⟨h1,h2⟩:=outb e
   refine ⟨h1,?_⟩
   rcases h2 with ⟨o',h2⟩ | h2
   ·exact Mdf.off_none (I.bs b o' h2).2
   ·exact Mdf.off_in h2
  ·cases q':(zM s.heap Hh).get? b with
   | none=>rfl
   | some o=>
    obtain ⟨h1,h2⟩:=outb q'
    rcases h2 with ⟨o',h2⟩ | h2
    ·rw [(z0.funs.mem hb).1] at h2;cases h2
    ·obtain ⟨φ,h3⟩:=ha.ext h2
     rw [z0.frf b hb] at h3;cases h3
  ·by_cases n:M.has b
   ·rw [Mdf.off_in n] at e;cases e
   ·rw [Mdf.off_ne n] at e
    exact (I.hok b u e).stay (fun _ _ _ q=>q) (fun b' q=>ha.stays q (by intro φ z;cases z)) fun b' xs q=>ha.stays q (by intro φ z;cases z)
 have Fk:=F _ md min
 have hl:us.length=ps.length:=by rw [←r.length];exact Fk.len _ _ _ _ h
 have hbb:=hb s us I.kIn (by rw [List.append_nil];exact hl)
 rw [List.append_nil] at hbb
 refine wpAny_call (codeAny_mono (Fk.run X.A X.stack s (M.off H) ⟨us,[]⟩ us vs Q E hr e0 hbb r h) fun r s' hq=>?_)
 match r,hq with
 | .error e,hq=>
  obtain ⟨a,T,cls,a0,dd,H',e1,os,bare,un,rest⟩:=hq
  exact hx pins H s e s' I ⟨a,T,cls,a0,dd,H',e1,os,bare,Un.off ha un,rest⟩
 | .ok (.ret u),hq=>
  obtain ⟨v,H',os,bare,un,rest⟩:=hq
  exact I.after ⟨v,H',os,bare,Un.off ha un,rest⟩
 | .ok .next,hq=>exact False.elim hq
 | .ok .brk,hq=>exact False.elim hq
 | .ok .cont,hq=>exact False.elim hq
theorem zl0 {W:Mdf→Prop} (F: ∀M:Mdf,W M→∀base,Mod X.K X.mg base→M.In q base→FnOk X.prog X.w X.K X.mg base (XT X.prog X.w) k f fd ps (sp M)) (hr:Room k X.A) (hg:Gl X x) (hm:X.mg x=some (.ref f)) (hk:PySem.W.keepIn X.K (.ref f)=true) (hb:Binds X.K fd ps []) (hx:zg6 (XT X.prog X.w) X σ₀ E)
  (ha:PA X (e::es) t) (hdb:(x==("__debug__" :Str))=false:=by decide) (he:starEach (e::es) X.env=(false,eval e X.env)::starEach es X.env:=by rfl) (hpl:(backTo pos (starEach es X.env)).any (·.1)=false:=by rfl):
  PE X (.Call (.Name x p) (e::es) [] pos) (fun σ H Q=>σ=σ₀∧t σ H fun vs H1=> ∃M:Mdf,W M∧M.At q H1∧sp M vs (M.off H1) Q E):=by
 intro pins s σ H Q I ⟨hσ,h⟩
 subst hσ
 refine wpAny_Call_Name_kw (zer I hg hm ?_ hdb)
 refine PySem.W.callWith_K (h₀:=X.base) I.ok.mod.kin hk (zo (ha pos pins s σ H _ I h) fun us s1 ⟨vs,H1,I1,r,M,wM,q1,q2⟩=>⟨I1.kIn,?_⟩) he hpl
 exact zpg (F M wM) hr hb hx I1 r q1 q2
end
end L2
namespace L3
open PySem PySem.Spec PyProof.Rows L2
section
variable {X:Cx} {κ:Kx} {E:XK} {F F1 F2 F':Fr} {σ σ':L2.St} {H H1 H2 H':Hp} {Q:VK} {p:Addr} {e a b o:Expr} {es:List Expr} {pos apos np cpos hp:Pos} {i:Nat} {D:Ends}
def ze5 (c:Str) (t:A3):D3:=fun s h=>(t s h).bindS fun fs h1=>if fs.length≤1000 then .ex ⟨c,none⟩ h1 else .no
theorem zg4 {c x:Str} {C:Addr} {t:A3} (hk:κ.cl c=some C) (xc:XCl X.K X.mg x C) (hc:X.calm=true) (hg:Gl X x) (hr:znj X E) (ha:PA X (e::es) (zy κ E t)) (hs:starEach (e::es) X.env=(false,eval e X.env)::starEach es X.env:=by rfl) (hpl:(backTo cpos (starEach es X.env)).any (·.1)=false:=by rfl)
  (hd:(x==("__debug__" :Str))=false:=by decide):PS X (.Raise (some (.Call (.Name x np) (e::es) [] cpos)) none pos) (zq κ E (ze5 c t)):=
 qc (zny xc hc hg hr ha hs hpl hd) fun D σ H ⟨F,rel,ht,o⟩=>(bindS (K:=kA κ) rel ht o).mono fun vs H1 ⟨β1,h1,fs,e1,⟨r1,rf⟩,o1⟩=>by
  by_cases hl:fs.length≤1000
  ·rw [if_pos hl] at o1
   exact ⟨by rw [←rf.length];exact hl,o1 (F.to β1 h1) H1 (SExt.of0 ht e1) (r1.heap.sub fun a ha=> .inr (.inr ha)) C none hk rfl⟩
  ·rw [if_neg hl] at o1;exact o1.elim
abbrev Hd:=Str×Option Nat×D3
def noEx:O3→O3
 | .ex _ _=> .no
 | o=>o
def asN (i:Nat):O3→O3
 | .nx s h=> .nx (s.set i none) h
 | .bk s h=> .bk (s.set i none) h
 | .ct s h=> .ct (s.set i none) h
 | .rt r h=> .rt r h
 | _=> .no
def pick (mt:Str→Str→Option Bool) (x:X3) (s:S3) (h:H3):List Hd→O3
 | []=> .no
 | (B,n,k)::r=>match mt x.c B with
  | some true=>match n with
   | none=>noEx (k s h)
   | some i=>if i < s.length then asN i (k (s.set i (some (.v (.fn x.c x.nm.toList)))) h) else .no
  | some false=>pick mt x s h r
  | none=> .no
def trOf (κ:Kx) (E:XK) (mt:Str→Str→Option Bool) (hs:List Hd):Value→Option Addr→TS:=fun cls dd D σ H=> ∃F x C,Rel κ F σ H∧F.T=[]∧κ.cl x.c=some C∧cls= .ref C∧XD F.β F.O H dd x.nm.toList∧SOut κ E F H D (pick mt x F.s F.h hs)
theorem phw {hs:List ExceptHandler} {t t':Value→Option Addr→TS} (h:PHs X hs t) (w: ∀cls dd D σ H,t' cls dd D σ H→t cls dd D σ H):PHs X hs t':=fun pins σ H s D a cls dd c q=>h pins σ H s D a cls dd c (w cls dd D σ H q)
theorem zt9 {mt:Str→Str→Option Bool}:PHs X [] (trOf κ E mt []):=phw zqp fun cls dd D σ H ⟨F,x,C,_,_,_,_,_,o⟩=>o
def MtOk (κ:Kx) (mt:Str→Str→Option Bool) (B:Str) (Ba:Addr):Prop:=∀c C v,κ.cl c=some C→mt c B=some v→PySem.W.exmOne κ.K (.ref C) (.ref Ba)=some v
theorem SOut.noEx {o:O3} (h:SOut κ E F H D (noEx o)):SOut κ E0 F H D o:=by
 cases o with
 | ex x h'=>exact h.elim
 | nx s h'=>exact h
 | bk s h'=>exact h
 | ct s h'=>exact h
 | rt r h'=>exact h
 | no=>exact h
theorem zr8 {x:Str} {B:Str} {Ba:Addr} {mt:Str→Str→Option Bool} {hs:List ExceptHandler} {b₀:Stmt} {suite:List Stmt} {k:D3} {r:List Hd} (hK:X.K=κ.K) (hM:MtOk κ mt B Ba) (hg:Gl X x) (hm:X.mg x=some (.ref Ba))
  (hs0: ∀e,z8 ((X.suite e).wish xNil) (b₀::suite) (zq κ E0 k)) (hr:PHs X hs (trOf κ E mt r)) (hd:(x==("__debug__" :Str))=false:=by decide):
  PHs X (.ExceptHandler (some (.Name x np)) none (b₀::suite) hp::hs) (trOf κ E mt ((B,none,k)::r)):=phw (zqe hg hm hs0 hr hd) fun cls dd D σ H ⟨F,y,C,rel,ht,hC,hcl,xd,o⟩=>by
 subst hcl
 unfold pick at o
 cases q:mt y.c B with
 | none=>rw [q] at o;exact o.elim
 | some v=>
  rw [q] at o
  have ex:=hM y.c C v hC q
  rw [←hK] at ex
  cases v with
  | true=>exact .inl ⟨ex,F,rel,ht,SOut.noEx o⟩
  | false=>exact .inr ⟨ex,F,y,C,rel,ht,hC,rfl,xd,o⟩
end
section
variable {X:Cx} {κ:Kx} {E:XK} {F:Fr} {σ:L2.St} {H:Hp} {Q:VK} {e:Expr} {es:List Expr} {pos p:Pos} {i:Nat}
theorem zvs {N:List Str} {n:Nat} {b:D3} {vs:List V} (hpl:n≤N.length) (h:zk κ n (fun3 n N.length b) vs H Q E):zq κ E b {nx:=fun _ H'=>Q .non H',rt:=Q} (start N vs) H:=by
 obtain ⟨O,β,vs3,h3,hl,rh,rv,o⟩:=h
 have rel:=zhi (N:=N) rh rv (by omega)
 refine ⟨_,rel,rfl,?_⟩
 unfold fun3 at o
 rw [if_pos (by rw [rv.length];exact hl)] at o
 generalize hF:(⟨O,[],β,List.replicate N.length none,start3 N.length vs3,h3⟩:Fr)=F0 at rel
 have e0:F0.s=start3 N.length vs3∧F0.h=h3∧F0.β=β∧F0.Oi=O∧∀a,some a∉F0.l:=by subst hF;exact ⟨rfl,rfl,rfl,rfl,fun a=>yZ⟩
 obtain ⟨es,eh,eb,eo,el⟩:=e0
 rw [es,eh]
 have ext: ∀{F':Fr} {H':Hp},SExt F0 H F' H'→Ext No β H F'.β H':=fun {F' H'} se=>⟨fun a u h n _=>se.ext.keep a u h (by rw [eb];exact n) (el a),by rw [←eb];exact se.ext.len,fun i a hi h=>by
  have:=se.ext.bet i a (by rw [eb];exact hi) h
  rw [eb] at this;exact this,se.ext.there,fun i a hi h=>se.ext.nwb i a (by rw [eb];exact hi) h⟩
 have hO: ∀{F':Fr} {H':Hp},SExt F0 H F' H'→∀a,O a→F'.O a:=fun {F' H'} se a ha=> .inr (.inr (by rw [se.oi,eo];exact ha))
 cases q:b (start3 N.length vs3) h3 with
 | nx s1 h1=>
  rw [q] at o
  exact fun F' σ' H' se _ h' r'=>o F'.β .non H' (ext se) ⟨by rw [←h'];exact r'.heap.sub (hO se),.non⟩
 | rt r h1=>
  rw [q] at o
  intro F' σ' v H' se h' p
  refine o F'.β v H' (ext se) ?_
  cases r with
  | v x=>exact ⟨by rw [←h'];exact p.1.heap.sub (hO se),Rep.sub (hO se) p.2⟩
  | m c=>
   obtain ⟨p,h1,h2,h3',h4⟩:=p
   have hs: ∀a,a=p∨O a→(F'.with p).O a:=fun a ha=>ha.elim (fun z=> .inl (by rw [z];exact List.mem_cons_self)) fun z=>Fr.O_with (hO se a z)
   refine ⟨p,h1,by rw [←h'];exact h2.heap.sub hs,h3'.sub hs,h4.elim (fun z=>absurd z (el p)) id,fun z=>h2.apart (hO se p z)⟩
 | bk s1 h1=>rw [q] at o;exact (show False from o).elim
 | ct s1 h1=>rw [q] at o;exact (show False from o).elim
 | no=>rw [q] at o;exact o
 | ex x h1=>
  rw [q] at o
  intro F' H' se r'
  have z:=o F'.β H' (ext se) (by rw [se.oi,eo] at r';exact r')
  rw [se.oi,eo];exact z
theorem fn3C {P:Program} {w:World} {K:PySem.W.Frag} {mg:Str→Option Value} {base:Heap} {k:Nat} {f c':Addr} {name qual:Str} {params:Arguments} {body:List Stmt} {scope:Scope} {cl:List (Str×Addr)} {doc pm ctv:Value} {N ps fs:List Str} {ws:List V} {b:D3}
  (lk:base.get? f=some (PySem.W.fnMade name qual params body scope cl doc pm c' ctv)) (hcd:base.CodeRec (.ref c') qual) (S:CloScope N ps fs scope) (hw:ws.length=fs.length) (hc:Held base cl fs ws)
  (hb: ∀(A:Around) (outer:List Env) (s:Shared) (H:Hp) (E:XK),Room k (A.deeper (PySem.W.envX qual scope s.heap.objs.size f (.ref c') cl))→z8 (cxC (XT P w) P w K mg base N qual scope f (.ref c') cl A outer s H E) body (zq κ E b)):
  FnOk P w K mg base (XT P w) (k+1) f (PySem.W.fnX name qual params body scope cl .none .none doc pm none (.ref c') ctv) ps (fun vs H Q E=>zk κ (ps.length+fs.length) (fun3 (ps.length+fs.length) N.length b) (vs++ws) H Q E):=
 zsj lk hcd S hw hc (fun vs H Q E ⟨_,_,_,_,h,_⟩=>by rw [List.length_append,hw] at h;omega) fun A outer s H vs Q E hr h=>
  ⟨zq κ E b,hb A outer s H E hr,zvs (by have:=congrArg List.length S.pre;rw [List.length_take,List.length_append] at this;omega) h⟩
def zfy (i:Nat) (f:F3) (t:A3):E3:=fun s h=>match s[i]? with
 | some (some (.v (.fn c cs)))=>if c=("<fn>" :Str) then (t s h).bind fun fs h1=>match vals3 fs with
  | some vs=>f (vs++cs) h1
  | none=> .no
  else .no
 | _=> .no
theorem znw {f:F3} {t:A3} {n:Nat} {fa:Addr} {ws:List V} (hf:zp f n) (hk:κ.clo=some (fa,ws)) (hne:κ.cl ("<fn>" :Str)=none) (h:zf κ E (zfy i f t) σ H Q):
  σ[i]? =some (some (.ref fa))∧zns (fun vs H Q E=>zk κ n f (vs++ws) H Q E) [] E (zy κ E t) σ H Q:=by
 obtain ⟨F,rel,o⟩:=h
 unfold zfy at o
 match q0:F.s[i]?,o with
 | some (some (.v (.fn c cs))),o=>
  by_cases hc:c=("<fn>" :Str)
  ·subst hc
   simp only [if_pos rfl] at o
   obtain ⟨v,hσ,rv⟩:=rel.slot i _ q0
   cases (show Rep κ F.β F.O H (.fn ("<fn>" :Str) cs) v from rv) with
   | exc k=>rw [hne] at k;cases k
   | clo k rc=>
    rw [hk] at k;cases k
    refine ⟨hσ,(zQ (K:=kA κ) zF rel o).mono fun vs H1 ⟨β1,h1,fs,e1,⟨r1,rf1⟩,o1⟩=>?_⟩
    cases q:vals3 fs with
    | none=>simp only [q] at o1;exact o1.elim
    | some xs=>
     simp only [q] at o1
     have hr:=(zbr rf1 q).append (rc.ext0 e1)
     show zk κ n f (vs++[]++ws) H1 Q E
     rw [List.append_nil]
     refine ⟨F.O,β1,xs++cs,h1,?_,r1.heap,hr,FOut.of r1 o1⟩
     refine Classical.byContradiction fun n=>?_
     rw [hf (xs++cs) h1 (by rw [hr.length];exact n)] at o1
     exact o1
  ·simp only [if_neg hc] at o;exact o.elim
theorem zrf {x:Str} {f:F3} {t:A3} {k n:Nat} {fa:Addr} {fd:FuncData} {ps:List Str} {ws:List V} {ob:Obj} (hf:zp f n) (hk:κ.clo=some (fa,ws)) (hne:κ.cl ("<fn>" :Str)=none) (Fk:FnOk X.prog X.w X.K X.mg X.base (XT X.prog X.w) k fa fd ps (fun vs H Q E=>zk κ n f (vs++ws) H Q E)) (hr:Room k X.A) (hN:X.N[i]? =some x) (hv:Vis X.env.scope x) (hfb:X.base.get? fa=some ob) (hfd:ob.data= .func fd) (hb: ∀(s:Shared) (us:List Value),us.length=ps.length→BindsTo s fd ⟨us,[]⟩ (ps.zip us)) (hx:yO (XT X.prog X.w) X E)
 (ha:PA X (e::es) (zy κ E t)) (hd:(x==("__debug__" :Str))=false:=by decide) (hcd:(x==("__classdict__" :Str))=false:=by decide) (he:starEach (e::es) X.env=(false,eval e X.env)::starEach es X.env:=by rfl) (hpl:(backTo pos (starEach es X.env)).any (·.1)=false:=by rfl):
 PE X (.Call (.Name x p) (e::es) [] pos) (zf κ E (zfy i f t)):=zZ (zoj Fk hr hN hv hfb hfd hb hx ha hd hcd he hpl) fun _ _ _ h=>znw hf hk hne h
mutual
def plain:V3→Bool
 | .fn _ _=>false
 | .tup xs=>zW xs
 | .lst xs=>zW xs
 | .dK kvs=>zhr kvs
 | .dT kvs=>zh8 kvs
 | .obj _ fs=>zf2 fs
 | _=>true
def zW:List V3→Bool
 | []=>true
 | x::r=>plain x && zW r
def zhr:List (yd×V3)→Bool
 | []=>true
 | (_,x)::r=>plain x && zhr r
def zh8:List (MK×V3)→Bool
 | []=>true
 | (_,x)::r=>plain x && zh8 r
def zf2:List (Str×V3)→Bool
 | []=>true
 | (_,x)::r=>plain x && zf2 r
end
def zP:C3→Bool
 | .lst xs=>zW xs
 | .dK kvs=>zhr kvs
 | .dT kvs=>zh8 kvs
 | .ins _ fs=>zf2 fs
 | .dead=>true
 | .tab=>false
def zeu:Vl→Bool
 | .v x=>plain x
 | .m c=>zP c
structure ToK (κ κ':Kx) (H H':Hp):Prop where
 K:κ'.K=κ.K
 cl:κ'.cl=κ.cl
 keep: ∀a o,H a=some o→(∀φ,o≠ .ext φ)→H' a=some o
end
section
variable {κ κ':Kx} {β:List (Option Addr)} {O:Addr→Prop} {H H':Hp}
mutual
theorem Rep.toK (t:ToK κ κ' H H'): ∀{x:V3} {v:V},plain x=true→Rep κ β O H x v→Rep κ' β O H' x v
 | _,_,_,.non=> .non
 | _,_,_,.bl b=> .bl b
 | _,_,_,.int i=> .int i
 | _,_,_,.str x=> .str x
 | _,_,_,.ty n=> .ty n
 | _,_,p,.tup h n o r=> .tup (t.keep _ _ h (by intro φ z;cases z)) n o (Reps.toK t (by simpa [plain] using p) r)
 | _,_,p,.lst h n o r=> .lst (t.keep _ _ h (by intro φ z;cases z)) n o (Reps.toK t (by simpa [plain] using p) r)
 | _,_,_,.scr h n o=> .scr (t.keep _ _ h (by intro φ z;cases z)) n o
 | _,_,_,.scrK h=> .scrK (by rw [t.K];exact h)
 | _,_,p,.dK h n o r=> .dK (t.keep _ _ h (by intro φ z;cases z)) n o (RepP.toKK t (by simpa [plain] using p) r)
 | _,_,p,.dT h n o r=> .dT (t.keep _ _ h (by intro φ z;cases z)) n o (RepP.toKT t (by simpa [plain] using p) r)
 | _,_,p,.obj k h n o r=> .obj (by rw [t.cl];exact k) (t.keep _ _ h (by intro φ z;cases z)) n o (RepP.toKF t (by simpa [plain] using p) r)
 | _,_,_,.cls k=> .cls (by rw [t.cl];exact k)
 | _,_,p,.exc _ _ _ _ _=>by simp [plain] at p
 | _,_,p,.clo _ _=>by simp [plain] at p
 | _,_,_,.loc l h=> .loc l h
theorem Reps.toK (t:ToK κ κ' H H'): ∀{x:List V3} {v:List V},zW x=true→Reps κ β O H x v→Reps κ' β O H' x v
 | _,_,_,.nil=> .nil
 | _,_,p,.cons a r=>by
  simp only [zW,Bool.and_eq_true] at p
  exact .cons (Rep.toK t p.1 a) (Reps.toK t p.2 r)
theorem RepP.toKK (t:ToK κ κ' H H'): ∀{x:List (yd×V3)} {v:List (yd×V)},zhr x=true→RepP κ β O H x v→RepP κ' β O H' x v
 | _,_,_,.nil=> .nil
 | _,_,p,.cons a r=>by
  simp only [zhr,Bool.and_eq_true] at p
  exact .cons (Rep.toK t p.1 a) (RepP.toKK t p.2 r)
theorem RepP.toKT (t:ToK κ κ' H H'): ∀{x:List (MK×V3)} {v:List (MK×V)},zh8 x=true→RepP κ β O H x v→RepP κ' β O H' x v
 | _,_,_,.nil=> .nil
 | _,_,p,.cons a r=>by
  simp only [zh8,Bool.and_eq_true] at p
  exact .cons (Rep.toK t p.1 a) (RepP.toKT t p.2 r)
theorem RepP.toKF (t:ToK κ κ' H H'): ∀{x:List (Str×V3)} {v:List (Str×V)},zf2 x=true→RepP κ β O H x v→RepP κ' β O H' x v
 | _,_,_,.nil=> .nil
 | _,_,p,.cons a r=>by
  simp only [zf2,Bool.and_eq_true] at p
  exact .cons (Rep.toK t p.1 a) (RepP.toKF t p.2 r)
end
theorem CellR.toK (t:ToK κ κ' H H') {c:C3} {a:Addr} (p:zP c=true) (r:CellR κ β O H c a):CellR κ' β O H' c a:=by
 cases c with
 | lst xs=>obtain ⟨_,q,r⟩:=r;exact ⟨_,t.keep _ _ q (by intro φ z;cases z),r.toK t p⟩
 | dK xs=>obtain ⟨_,q,r⟩:=r;exact ⟨_,t.keep _ _ q (by intro φ z;cases z),r.toKK t p⟩
 | dT xs=>obtain ⟨_,q,r⟩:=r;exact ⟨_,t.keep _ _ q (by intro φ z;cases z),r.toKT t p⟩
 | ins c fs=>obtain ⟨_,_,_,k,q,r⟩:=r;exact ⟨_,_,_,by rw [t.cl];exact k,t.keep _ _ q (by intro φ z;cases z),r.toKF t p⟩
 | dead=>exact r
 | tab=>cases p
theorem RelH.toK (t:ToK κ κ' H H') {h:H3} (hk: ∀a o,O a∨some a∈β→H a=some o→H' a=some o) (p: ∀c∈h,zP c=true) (r:RelH κ O β h H):RelH κ' O β h H':=
 ⟨r.len,r.inj,r.off,fun a ha=>let ⟨o,q,n⟩:=r.trk a ha;⟨o,hk a o (.inl ha) q,n⟩,fun i a e=>let ⟨o,q,n⟩:=r.btr i a e;⟨o,hk a o (.inr (List.mem_of_getElem? e)) q,n⟩,fun i c hc=>(r.cell i c hc).imp id fun ⟨a,ha,q⟩=>⟨a,ha,q.toK t (p c (List.mem_of_getElem? hc))⟩⟩
theorem PostF.toK (t:ToK κ κ' H H) {N:Addr→Prop} {h:H3} {r:Vl} {v:V} (p: ∀c∈h,zP c=true) (pr:zeu r=true) (x:PostF κ N O β h H r v):PostF κ' N O β h H r v:=by
 cases r with
 | v y=>exact ⟨x.1.toK t (fun _ _ _ q=>q) p,x.2.toK t pr⟩
 | m c=>obtain ⟨a,e,rh,rc,n⟩:=x;exact ⟨a,e,rh.toK t (fun _ _ _ q=>q) p,rc.toK t pr,n⟩
end
def two3:Option (List V3)→Option (V3×V3)
 | some [a,b]=>some (a,b)
 | _=>none
theorem zq9 {o:Option (List V3)} {p:V3×V3} (h:two3 o=some p):o=some [p.1,p.2]:=by
 unfold two3 at h
 split at h
 ·cases h;rfl
 ·cases h
def zj9 (h:H3):Bool:=match (h[0]? :Option C3) with
 | some .tab=>true
 | _=>false
theorem zn6 {h:H3} (e:zj9 h=true):h[0]? =some .tab:=by
 unfold zj9 at e
 split at e
 ·rename_i q;exact q
 ·cases e
def zks (mt:Str→Str→Option Bool) (t1 t2:A3) (f:F3) (hs:List Hd):D3:=fun s h=>match t1 s h with
 | .ok fs1 h1=>match two3 (vals3 fs1) with
  | some p=>if zj9 h1=true then match t2 s (h1.set 0 .dead) with
   | .ok fs h3=>match vals3 fs with
    | some xs=>if (plain p.1 && plain p.2 && zW xs && h3.all zP)=true then match f (.fn ("<fn>" :Str) [p.1,p.2]::xs) h3 with
      | .ok r h4=>if (zeu r && h4.all zP)=true then .rt r h4 else .no
      | .ex x h4=>if h4.all zP=true then pick mt x s h4 hs else .no
      | .no=> .no
     else .no
    | none=> .no
   | _=> .no
   else .no
  | none=> .no
 | _=> .no
structure MdOk (mk:Addr→Addr→Value→Addr→Value→Obj) (M:Mdf):Prop where
 o: ∃doc ctv,M.o=mk M.a1 M.a2 doc M.c ctv
 r1:RelV M.w1 M.u1
 r2:RelV M.w2 M.u2
 ne:M.a1≠M.a2
abbrev Kx.withM (κ:Kx) (M:Mdf):Kx:={κ with clo:=some (M.f,[M.w1,M.w2])}
section
variable {X:Cx} {κ:Kx} {E:XK} {D:Ends} {σ:L2.St} {H:Hp}
theorem zrd {t1 t2:A3} {f:F3} {n:Nat} {mt:Str→Str→Option Bool} {hs:List Hd} {q:Str} {mk:Addr→Addr→Value→Addr→Value→Obj} {E1:XK} (hf:zp f n) (h:zq κ E (zks mt t1 t2 f hs) D σ H):
  zy κ E0 t1 σ H (fun vs H1=>spT κ.tb q mk (vs++[]) H1 (fun v0 H2=>zy κ E0 t2 σ H2 (fun ws H3=> ∃M:Mdf,MdOk mk M∧M.At q H3∧zk (κ.withM M) n f (v0::ws) (M.off H3) D.rt (fun cls dd H'=>trOf κ E mt hs cls dd D σ H'))) E1):=by
 obtain ⟨F,rel,ht,o⟩:=h
 unfold zks at o
 refine ⟨F,rel,?_⟩
 cases q1:t1 F.s F.h with
 | no=>rw [q1] at o;exact o.elim
 | ex x h1=>rw [q1] at o;exact o.elim
 | ok fs1 h1=>
  rw [q1] at o
  intro β1 vs H1 e1 ⟨r1,rf1⟩
  cases q2:two3 (vals3 fs1) with
  | none=>simp only [q2] at o;exact o.elim
  | some pp=>
   obtain ⟨x1,x2⟩:=pp
   simp only [q2] at o
   have hr:=zbr rf1 (zq9 q2)
   have it:zj9 h1=true:=Classical.byContradiction fun z=>by rw [if_neg z] at o;exact o
   rw [if_pos it] at o
   have q2':=zn6 it
   obtain ⟨v1,v2,rfl,rx1,rx2⟩: ∃v1 v2,vs=[v1,v2]∧Rep κ β1 F.O H1 x1 v1∧Rep κ β1 F.O H1 x2 v2:=by
    cases hr with
    | cons a r=>cases r with
     | cons b r=>cases r;exact ⟨_,_,rfl,a,b⟩
   obtain ⟨T,hbT,eT,hT⟩: ∃T,β1[0]? =some (some T)∧T=κ.tb∧H1 T=some (.tbl #[]):=by
    rcases r1.heap.cell 0 _ q2' with z | ⟨a,ha,z⟩
    ·cases z
    ·exact ⟨a,ha,z⟩
   subst eT
   refine ⟨v1,v2,by rw [List.append_nil],hT,fun f' c a1 a2 doc ctv ps u1 u2 ru1 ru2 nf nc n1 n2 fc f1 f2 c1 c2 a12=>?_⟩
   generalize hM:(⟨f',c,a1,a2,u1,u2,v1,v2,mk a1 a2 doc c ctv⟩:Mdf)=M
   have new: ∀b,M.has b→H1 b=none:=fun b hb=>by
    subst hM
    rcases hb with rfl | rfl | rfl | rfl
    ·exact nf
    ·exact nc
    ·exact n1
    ·exact n2
   have nT: ∀b,M.has b→b≠κ.tb:=fun b hb z=>by subst z;rw [new _ hb] at hT;cases hT
   have nb: ∀b,M.has b→some b∉β1:=fun b hb z=>by
    obtain ⟨i,hi⟩:=List.mem_iff_getElem?.mp z
    obtain ⟨u,hu,_⟩:=r1.heap.btr i b hi
    rw [new b hb] at hu;cases hu
   have nO: ∀b,M.has b→¬F.O b:=fun b hb z=>by
    obtain ⟨u,hu,_⟩:=r1.heap.trk b z
    rw [new b hb] at hu;cases hu
   generalize hH2:zhn H1 κ.tb c f' a1 a2 ps q (mk a1 a2 doc c ctv) u1 u2=H2
   have kp: ∀a u,H1 a=some u→a≠κ.tb→H2 a=some u:=fun a u ha hn=>by
    subst hH2
    unfold zhn zG
    rw [zl (zT ha n2),zl (zT ha n1),zl (zT ha nf),zl (zT ha nc),zl hn]
    exact ha
   have eT2: ∃ps,H2 κ.tb=some (.tbl ps):=by
    subst hH2
    unfold zhn zG
    rw [zl (zT hT n2),zl (zT hT n1),zl (zT hT nf),zl (zT hT nc),zI]
    exact ⟨_,rfl⟩
   have atH2:M.At q H2:=by
    subst hM;subst hH2
    unfold zhn zG
    refine ⟨?_,?_,?_,?_⟩
    ·show zg _ a2 _ f'=_
     rw [zl f2,zl f1,zI]
    ·show zg _ a2 _ c=_
     rw [zl c2,zl c1,zl (Ne.symm fc),zI]
    ·show zg _ a2 _ a1=_
     rw [zl a12,zI]
    ·show zg _ a2 _ a2=_
     rw [zI]
   have ex2:Ext No β1 H1 β1 H2:=⟨fun a u ha hn _=>⟨kp a u ha fun z=>hn (by rw [z];exact List.mem_of_getElem? hbT),hn⟩,Nat.le_refl _,fun _ _ _ h=>h,fun a u ha=>by
    by_cases z:a=κ.tb
    ·subst z;obtain ⟨p,hp⟩:=eT2;exact ⟨_,hp⟩
    ·exact ⟨u,kp a u ha z⟩,nwb0⟩
   have neT: ∀(i:Nat) a,i≠0→β1[i]? =some (some a)→a≠κ.tb:=fun i a hi e z=>hi (r1.heap.inj i 0 a e (by rw [z];exact hbT))
   have rh2:RelH κ F.O β1 (h1.set 0 .dead) H2:=by
    have r:=r1.heap
    refine ⟨by rw [List.length_set];exact r.len,r.inj,r.off,fun a ha=>?_,fun i a e=>?_,fun i c' hc=>?_⟩
    ·obtain ⟨u,hu,hn⟩:=r.trk a ha
     exact ⟨u,kp a u hu fun z=>r.off a ha (by rw [z];exact List.mem_of_getElem? hbT),hn⟩
    ·by_cases hi:i=0
     ·subst hi;rw [hbT] at e;cases e
      obtain ⟨p,hp⟩:=eT2
      exact ⟨_,hp,by intro ys z;cases z⟩
     ·obtain ⟨u,hu,hn⟩:=r.btr i a e
      exact ⟨u,kp a u hu (neT i a hi e),hn⟩
    ·by_cases hi:i=0
     ·subst hi
      rw [List.getElem?_set_self (by have:=(List.getElem?_eq_some_iff.mp q2').1;exact this)] at hc
      cases hc;exact .inl rfl
     ·rw [List.getElem?_set_ne (Ne.symm hi)] at hc
      refine (r.cell i c' hc).imp id fun ⟨a,ha,z⟩=>⟨a,ha,z.ext ex2 (fun _ z=>z.elim) (fun _ _ _ n=>n) fun u hu=>kp a u hu (neT i a hi ha)⟩
   have r2:=Rel.next (F:=F.to β1 h1) r1 ex2 rh2
   refine ⟨_,r2,?_⟩
   show Out κ E0 _ _ σ H2 _ (t2 F.s (h1.set 0 .dead))
   cases q3:t2 F.s (h1.set 0 .dead) with
   | no=>simp only [q3] at o;exact o.elim
   | ex x h3=>simp only [q3] at o;exact o.elim
   | ok fs h3=>
    simp only [q3] at o
    intro β3 ws H3 e3 ⟨r3,rf3⟩
    cases q4:vals3 fs with
    | none=>simp only [q4] at o;exact o.elim
    | some xs=>
     simp only [q4] at o
     by_cases hp:(plain x1 && plain x2 && zW xs && h3.all zP)=true
     ·rw [if_pos hp] at o
      simp only [Bool.and_eq_true] at hp
      obtain ⟨⟨⟨p1,p2⟩,p3⟩,p4⟩:=hp
      have p4: ∀c∈h3,zP c=true:=List.all_eq_true.mp p4
      have hr3:=zbr rf3 q4
      have k3: ∀b u,M.has b→H2 b=some u→H3 b=some u∧some b∉β3:=fun b u hb e=>e3.keep b u e (nb b hb) id
      have at3:M.At q H3:=⟨(k3 _ _ (.inl rfl) atH2.f).1,(k3 _ _ (.inr (.inl rfl)) atH2.c).1,(k3 _ _ (.inr (.inr (.inl rfl))) atH2.c1).1,(k3 _ _ (.inr (.inr (.inr rfl))) atH2.c2).1⟩
      have nb3: ∀b,M.has b→some b∉β3:=fun b hb=>by
       obtain ⟨φ,h⟩:=atH2.ext hb
       exact (k3 b _ hb h).2
      have tk:ToK κ (κ.withM M) H3 (M.off H3):=⟨rfl,rfl,fun a u e n=>at3.stays e n⟩
      have tb: ∀Hx,ToK (κ.withM M) κ Hx Hx:=fun Hx=>⟨rfl,rfl,fun a u e n=>e⟩
      have e123:=(e1.trans0 ex2).trans0 e3
      have newH: ∀b,M.has b→H b=none:=fun b hb=>by
       cases z:H b with
       | none=>rfl
       | some u=>obtain ⟨u',hu⟩:=e1.there b u z;rw [new b hb] at hu;cases hu
      have eOff:Ext No F.β H β3 (M.off H3):=⟨fun a u ha hn hm=>by
       obtain ⟨z1,z2⟩:=e123.keep a u ha hn hm
       exact ⟨by rw [Mdf.off_ne fun z=>by rw [newH a z] at ha;cases ha];exact z1,z2⟩,e123.len,e123.bet,fun a u ha=>by
       obtain ⟨u',hu⟩:=e123.there a u ha
       exact ⟨u',by rw [Mdf.off_ne fun z=>by rw [newH a z] at ha;cases ha];exact hu⟩,e123.nwb⟩
      refine ⟨M,by subst hM;exact ⟨⟨doc,ctv,rfl⟩,ru1,ru2,a12⟩,at3,F.O,β3,.fn ("<fn>" :Str) [x1,x2]::xs,h3,?_,r3.heap.toK tk (fun a u ha e=>by
       rw [Mdf.off_ne fun z=>ha.elim (nO a z) (nb3 a z)];exact e) p4,?_,?_⟩
      ·refine Classical.byContradiction fun nn=>?_
       rw [hf (.fn ("<fn>" :Str) [x1,x2]::xs) h3 (by rw [List.length_cons,hr3.length];exact nn)] at o
       exact o
      ·have rc:Rep (κ.withM M) β3 F.O (M.off H3) (.fn ("<fn>" :Str) [x1,x2]) (.ref M.f):= .clo rfl (by
        have z1:=((rx1.ext0 ex2).ext0 e3).toK tk p1
        have z2:=((rx2.ext0 ex2).ext0 e3).toK tk p2
        subst hM
        exact .cons z1 (.cons z2 .nil))
       have ef:M.f=f':=by subst hM;rfl
       rw [ef] at rc
       exact .cons rc (hr3.toK tk p3)
      ·cases q5:f (.fn ("<fn>" :Str) [x1,x2]::xs) h3 with
       | no=>rw [q5] at o;exact o
       | ex x h4=>
        simp only [q5] at o
        by_cases hp4:h4.all zP=true
        ·rw [if_pos hp4] at o
         intro β' H' e' rh' C dd hC xd
         have eAll:=eOff.trans0 e'
         exact ⟨F.to β' h4,x,C,rel.next eAll (rh'.toK (tb H') (fun _ _ _ z=>z) (List.all_eq_true.mp hp4)),ht,hC,rfl,xd,SOut.move (SExt.of0 ht eAll) o⟩
        ·rw [if_neg hp4] at o;exact o.elim
       | ok r h4=>
        simp only [q5] at o
        by_cases hp4:(zeu r && h4.all zP)=true
        ·rw [if_pos hp4] at o
         simp only [Bool.and_eq_true] at hp4
         intro β' v H' e' pf
         have eAll:=eOff.trans0 e'
         have pf:=pf.toK (tb H') (List.all_eq_true.mp hp4.2) hp4.1
         refine o (F.to β' h4) σ v H' (SExt.of0 ht eAll) rfl ?_
         cases r with
         | v y=>exact ⟨rel.next eAll pf.1,pf.2⟩
         | m cc=>
          obtain ⟨p,ep,rh,rc,np,nop⟩:=pf
          have hpn:H p=none:=by
           cases z:H p with
           | none=>rfl
           | some u=>
            obtain ⟨u',hu⟩:=eOff.there p u z
            have np:M.off H3 p=none:=np
            rw [np] at hu;cases hu
          have rr:=Rel.nextNew rel eAll rh hpn
          refine ⟨p,ep,rr,rc.sub (fun a ha=>?_),.inr hpn⟩
          rcases ha with z | z
          ·rcases List.mem_cons.mp z with z | z
           ·exact .inl z
           ·exact .inr (.inl z)
          ·exact .inr (.inr z)
        ·rw [if_neg hp4] at o;exact o.elim
     ·rw [if_neg hp] at o;exact o.elim
end
section
variable {X:Cx} {κ:Kx} {E:XK} {D:Ends} {σ:L2.St} {H:Hp} {a1:Expr} {as es:List Expr} {np np2 cpos cpos2 rpos pos:Pos}
theorem zqb {x y:Str} {t1 t2:A3} {f:F3} {k km n:Nat} {fa fy:Addr} {fd fdy:FuncData} {ps psy:List Str} {mt:Str→Str→Option Bool} {hs:List Hd} {h₀:ExceptHandler} {hh:List ExceptHandler} {q:Str} {mk:Addr→Addr→Value→Addr→Value→Obj} (hf:zp f n)
  (Fk: ∀M:Mdf,MdOk mk M→∀base,Mod X.K X.mg base→M.In q base→FnOk X.prog X.w X.K X.mg base (XT X.prog X.w) k fa fd ps (zk (κ.withM M) n f)) (hr:Room k X.A) (hg:Gl X x) (hm:X.mg x=some (.ref fa)) (hk:PySem.W.keepIn X.K (.ref fa)=true) (hb:Binds X.K fd ps [])
  (Fy:FnOk X.prog X.w X.K X.mg X.base CX0 km fy fdy psy (spT κ.tb q mk)) (hry:Room km X.A) (hgy:Gl X y) (hmy:X.mg y=some (.ref fy)) (hky:PySem.W.keepIn X.K (.ref fy)=true) (hby:Binds X.K fdy psy [])
  (ha1: ∀pn W,PA ((X.pinned pn).wish W) (a1::as) (zy κ E0 t1)) (ha2: ∀pn W,PA ((X.pinned pn).wish W) es (zy κ E0 t2)) (hst:X.stack=X.env::X.outer) (hfm:X.env.frame=some X.env.locals) (hex:X.ex=[]) (hp:PHs X (h₀::hh) (trOf κ E mt hs))
  (hdb:(x==("__debug__" :Str))=false:=by decide) (hdy:(y==("__debug__" :Str))=false:=by decide) (he1:starEach (a1::as) X.env=(false,eval a1 X.env)::starEach as X.env:=by rfl) (hp1:(backTo cpos2 (starEach as X.env)).any (·.1)=false:=by rfl)
  (he:starEach (.Call (.Name y np2) (a1::as) [] cpos2::es) X.env=(false,eval (.Call (.Name y np2) (a1::as) [] cpos2) X.env)::starEach es X.env:=by rfl) (hpl:(backTo cpos (starEach es X.env)).any (·.1)=false:=by rfl):
  PS X (.Try [.Return (some (.Call (.Name x np) (.Call (.Name y np2) (a1::as) [] cpos2::es) [] cpos)) rpos] (h₀::hh) [] [] pos) (zq κ E (zks mt t1 t2 f hs)):=
 qc (zog (tb:=fun E' D σ H=>zy κ E0 t1 σ H (fun vs H1=>spT κ.tb q mk (vs++[]) H1 (fun v0 H2=>zy κ E0 t2 σ H2 (fun ws H3=> ∃M:Mdf,MdOk mk M∧M.At q H3∧zk (κ.withM M) n f (v0::ws) (M.off H3) D.rt E')) fun _ _ _=>False)) hst hfm hex
  (fun pn σ₀ E'=>zmt (zld (X:=(X.pinned pn).wish (zd2 X pn σ₀ E')) (zl0 (X:=(X.pinned pn).wish (zd2 X pn σ₀ E')) (W:=MdOk mk) (sp:=fun M=>zk (κ.withM M) n f) Fk hr hg hm hk hb zud
   (zlz (X:=(X.pinned pn).wish (zd2 X pn σ₀ E')) (zm8 (X:=(X.pinned pn).wish (zd2 X pn σ₀ E')) (CX:=CX0) (E:=fun _ _ _=>False) Fy hry hgy hmy hky hby .nil (fun _ _ _ _ _ _ _ z=>z.elim) (ha1 pn _) hdy he1 hp1) (ha2 pn _) he) hdb he hpl))) hp) fun D σ H h=>zrd hf h
end
theorem noX {P:Program} {w:World} {H:Hp} {s:Shared} {e:Value} {s':Shared} (h:XT P w [] H s (fun _ _ _=>False) e s'):False:=by
 obtain ⟨_,_,_,_,_,_,_,_,_,_,_,_,_,_,_,_,q⟩:=h
 exact q
end L3
namespace L3
open PySem L2
theorem ze0 {a b:D3} {s s1:S3} {h h1:H3} (e:a s h= .nx s1 h1):sSeq a b s h=b s1 h1:=by unfold sSeq;rw [e]
theorem zop {ok:H3→Prop} {g:G3} {b:D3} {h:H3} {Q:O3→Prop} (I:Nat→S3→Prop) {xs:List V3} {s:S3} (hok:ok h) (h0:I 0 s)
  (step: ∀(i:Nat) x s,xs[i]? =some x→I i s→∃s1,g x s=some s1∧((∃s2,(b s1 h= .nx s2 h∨b s1 h= .ct s2 h)∧I (i+1) s2)∨(∃r h2,b s1 h= .rt r h2∧Q (.rt r h2))∨∃s2,b s1 h= .bk s2 h∧Q (.nx s2 h)))
  (done: ∀s,I xs.length s→Q (.nx s h)):Q (zt ok g b xs s h):=by
 have gen: ∀(n i:Nat) (s:S3),n=xs.length - i→i≤xs.length→I i s→Q (zt ok g b (xs.drop i) s h):=by
  intro n
  induction n with
  | zero=>
   intro i s hn hi hI
   have:i=xs.length:=by omega
   subst this
   rw [List.drop_length]
   unfold zt
   rw [if_pos hok]
   exact done s hI
  | succ n ih=>
   intro i s hn hi hI
   have hlt:i < xs.length:=by omega
   rw [List.drop_eq_getElem_cons hlt]
   unfold zt
   rw [if_pos hok]
   obtain ⟨s1,hg,hs⟩:=step i xs[i] s (z4 hlt) hI
   simp only [hg]
   rcases hs with ⟨s2,hb,hI2⟩ | ⟨r,h2,hb,hq⟩ | ⟨s2,hb,hq⟩
   ·rcases hb with hb | hb <;> simp only [hb] <;> exact ih (i+1) s2 (by omega) hlt hI2
   ·simp only [hb];exact hq
   ·simp only [hb];exact hq
 exact gen _ 0 s rfl (Nat.zero_le _) h0
theorem zij {ok:H3→Prop} {g:G3} {b:D3} {h:H3} (I:Nat→S3→Prop) {xs:List V3} {s:S3} (hok:ok h) (h0:I 0 s)
  (step: ∀(i:Nat) x s,xs[i]? =some x→I i s→∃s1 s2,g x s=some s1∧b s1 h= .nx s2 h∧I (i+1) s2): ∃s',zt ok g b xs s h= .nx s' h∧I xs.length s':=by
 refine zop (Q:=fun o=> ∃s',o= .nx s' h∧I xs.length s') I hok h0 (fun i x s hx hI=>?_) fun s hI=>⟨s,rfl,hI⟩
 obtain ⟨s1,s2,h1,h2,h3⟩:=step i x s hx hI
 exact ⟨s1,h1,.inl ⟨s2,.inl h2,h3⟩⟩
theorem zov {α:Type} {ok:H3→Prop} {g:G3} {e:E3} {h:H3} (I:S3→Prop) (enc:α→V3) (f:α→V3) (hok:ok h) {l:List α} (hl:l.length≤sizeLine)
  (step: ∀a s,a∈l→I s→∃s1 r,g (enc a) s=some s1∧I s1∧e s1 h= .ok r h∧r.fz=some (f a)) {s:S3} (h0:I s):
  yI ok g tTru e (l.map enc) [] s h= .ok (l.map f) h:=by
 have gen: ∀(l:List α) (acc:List V3) (s:S3),acc.length+l.length≤sizeLine→(∀a s,a∈l→I s→∃s1 r,g (enc a) s=some s1∧I s1∧e s1 h= .ok r h∧r.fz=some (f a))→I s→yI ok g tTru e (l.map enc) acc s h= .ok (acc++l.map f) h:=by
  intro l
  induction l with
  | nil=>intro acc s _ _ _;rw [List.map_nil];unfold yI;rw [if_pos hok];simp
  | cons x r ih=>
   intro acc s hl st hI
   rw [List.map_cons]
   unfold yI
   rw [if_pos hok]
   obtain ⟨s1,v,h1,h2,h5,h6⟩:=st x s List.mem_cons_self hI
   rw [List.length_cons] at hl
   simp only [h1,tTru,h5,h6,if_pos (show acc.length < sizeLine by omega)]
   rw [ih (acc++[f x]) s1 (by rw [List.length_append,List.length_singleton];omega) (fun x s hx=>st x s (List.mem_cons_of_mem _ hx)) h2]
   simp
 have:=gen l [] s (by simpa using hl) step h0
 simpa using this
theorem zpe (l:List Int):zV int3 (l.map .int)=some l:=by
 have:=zg1 (f:=int3) (g:=V3.int) (k:=id) (fun _=>rfl) l
 simpa using this
theorem zp8 (l:List Bool):zV bl3 (l.map .bl)=some l:=by
 have:=zg1 (f:=bl3) (g:=V3.bl) (k:=id) (fun _=>rfl) l
 simpa using this
theorem zh6: ∀{ns:List Int} {a:Int},0≤a→(∀x∈ns,0≤x)→a+ns.sum < 2 ^ 63→zhx a ns=true
 | [],_,_,_,_=>rfl
 | x::r,a,h0,hp,hs=>by
  have hx:=hp x List.mem_cons_self
  rw [List.sum_cons] at hs
  have hr:0≤r.sum:=by
   have: ∀l:List Int,(∀x∈l,0≤x)→0≤l.sum:=by
    intro l;induction l with
    | nil=>intro _;exact Int.le_refl _
    | cons y t ih=>intro h;rw [List.sum_cons];have:=h y List.mem_cons_self;have:=ih fun z hz=>h z (List.mem_cons_of_mem _ hz);omega
   exact this r fun z hz=>hp z (List.mem_cons_of_mem _ hz)
  unfold zhx
  rw [Bool.and_eq_true,Bool.and_eq_true]
  refine ⟨⟨decide_eq_true ⟨by omega,by omega⟩,decide_eq_true ⟨by omega,by omega⟩⟩,zh6 (by omega) (fun z hz=>hp z (List.mem_cons_of_mem _ hz)) (by omega)⟩
theorem at0 {α:Type} {x:α} {r:List α}:atI (x::r) (0:Int)=some x:=zdi (j:=0) rfl
theorem at1 {α:Type} {x y:α} {r:List α}:atI (x::y::r) (1:Int)=some y:=zdi (j:=1) rfl
theorem at2 {α:Type} {x y z:α} {r:List α}:atI (x::y::z::r) (2:Int)=some z:=zdi (j:=2) rfl
theorem at3 {α:Type} {x y z u:α} {r:List α}:atI (x::y::z::u::r) (3:Int)=some u:=zdi (j:=3) rfl
theorem at4 {α:Type} {x y z u v:α} {r:List α}:atI (x::y::z::u::v::r) (4:Int)=some v:=zdi (j:=4) rfl
theorem atm1 {α:Type} {l:List α} {x:α}:atI (l++[x]) (-1:Int)=some x:=zoq l x
theorem znm {i j:Int} (h: -(2 ^ 64) < i∧i < 2 ^ 64):CMul i j:= .inl h
theorem ztx {i j:Int} (h: -(2 ^ 64) < j∧j < 2 ^ 64):CMul i j:= .inr h
theorem zn9 {h:H3} {n:Nat} {x y:V3} {a b:V} (hx:yC h x= .f a) (hy:yC h y= .f b):yb h n x y=some (eqV a b):=by
 cases n <;> simp only [yb,hx,hy]
theorem zil {h:H3} {n:Nat} {i j:Int}:yb h n (.int i) (.int j)=some (decide (i=j)):=by
 rw [zn9 (a:= .int i) (b:= .int j) rfl rfl];congr 1
theorem nx_ite {c:Prop} [Decidable c] {a b:S3} {h:H3}:(if c then O3.nx a h else O3.nx b h)=O3.nx (if c then a else b) h:=by split <;> rfl
theorem rt_ite {c:Prop} [Decidable c] {a b:Vl} {h:H3}:(if c then O3.rt a h else O3.rt b h)=O3.rt (if c then a else b) h:=by split <;> rfl
theorem ok_ite {α:Type} {c:Prop} [Decidable c] {a b:α} {h:H3}:(if c then Res.ok a h else Res.ok b h)=Res.ok (if c then a else b) h:=by split <;> rfl
theorem cons_ite {α:Type} {c:Prop} [Decidable c] {a b:α} {x y:List α}:(if c then a::x else b::y)=(if c then a else b)::(if c then x else y):=by split <;> rfl
theorem some_ite {α:Type} {c:Prop} [Decidable c] {a b:α}:(if c then some a else some b)=some (if c then a else b):=by split <;> rfl
theorem v_ite {c:Prop} [Decidable c] {a b:V3}:(if c then Vl.v a else Vl.v b)=Vl.v (if c then a else b):=by split <;> rfl
theorem int_ite {c:Prop} [Decidable c] {a b:Int}:(if c then V3.int a else V3.int b)=V3.int (if c then a else b):=by split <;> rfl
theorem bl_ite {c:Prop} [Decidable c] {a b:Bool}:(if c then V3.bl a else V3.bl b)=V3.bl (if c then a else b):=by split <;> rfl
theorem oEq_int {s:S3} {h:H3} {i j:Int}:yh s h (.x (.int i)) (.x (.int j))=some (.v (.bl (decide (i=j)))):=by
 unfold yh yY;simp only [rdm,rdl,zil,Option.map_some]
theorem oNe_int {s:S3} {h:H3} {i j:Int}:ym s h (.x (.int i)) (.x (.int j))=some (.v (.bl (!decide (i=j)))):=by
 unfold ym yY;simp only [rdm,rdl,zil,Option.map_some]
theorem oAdd_int {s:S3} {h:H3} {i j:Int}:zr s h (.x (.int i)) (.x (.int j))=some (.v (.int (i+j))):=rfl
theorem oAddI_int {s:S3} {h:H3} {i j:Int}:zhg s h (.x (.int i)) (.x (.int j))=some (.v (.int (i+j))):=rfl
theorem oSub_int {s:S3} {h:H3} {i j:Int}:oSub s h (.x (.int i)) (.x (.int j))=some (.v (.int (i - j))):=rfl
theorem oMul_int {s:S3} {h:H3} {i j:Int} (c:CMul i j):oMul s h (.x (.int i)) (.x (.int j))=some (.v (.int (i*j))):=by
 unfold oMul yB zph oI;simp only [if_pos c,Option.map_some]
theorem oDiv_int {s:S3} {h:H3} {i j:Int} (a:0 < j) (b:j < 1073741824):zN s h (.x (.int i)) (.x (.int j))=some (.v (.int (i / j))):=by
 unfold zN oI;simp only [if_pos (show CDiv i j from ⟨a,b⟩),Option.map_some]
theorem oMod_int {s:S3} {h:H3} {i j:Int} (c:0 < j):zu s h (.x (.int i)) (.x (.int j))=some (.v (.int (i % j))):=by
 unfold zu oI;simp only [if_pos c,Option.map_some]
theorem oShr_int {s:S3} {h:H3} {i j:Int} (c:0≤j):oShr s h (.x (.int i)) (.x (.int j))=some (.v (.int (i / 2 ^ j.toNat))):=by
 unfold oShr oI;simp only [if_pos c,Option.map_some]
theorem oPow_int {s:S3} {h:H3} {i j:Int} (c:CPow i j):oPow s h (.x (.int i)) (.x (.int j))=some (.v (.int (i ^ j.toNat))):=by
 unfold oPow oI;simp only [if_pos c,Option.map_some]
theorem oAndI_int {s:S3} {h:H3} {i j:Int}:zu4 s h (.x (.int i)) (.x (.int j))=some (.v (.int (Builtin.bitAnd i j))):=rfl
theorem oLt_int {s:S3} {h:H3} {i j:Int}:oLt s h (.x (.int i)) (.x (.int j))=some (.v (.bl (decide (i < j)))):=rfl
theorem oLe_int {s:S3} {h:H3} {i j:Int}:oLe s h (.x (.int i)) (.x (.int j))=some (.v (.bl (decide (i≤j)))):=rfl
theorem oGt_int {s:S3} {h:H3} {i j:Int}:oGt s h (.x (.int i)) (.x (.int j))=some (.v (.bl (decide (j < i)))):=rfl
theorem oGe_int {s:S3} {h:H3} {i j:Int}:oGe s h (.x (.int i)) (.x (.int j))=some (.v (.bl (decide (j≤i)))):=rfl
theorem oIx_tup {s:S3} {h:H3} {xs:List V3} {i:Int}:zL s h (.x (.tup xs)) (.x (.int i))=(atI xs i).map .v:=by
 unfold zL yB oIxT oIxL oIxS;simp only [rdl];cases atI xs i <;> rfl
theorem oIx_lst {s:S3} {h:H3} {xs:List V3} {i:Int}:zL s h (.x (.lst xs)) (.x (.int i))=(atI xs i).map .v:=by
 unfold zL yB oIxT oIxL oIxS;simp only [rdl];cases atI xs i <;> rfl
theorem oIx_scr {s:S3} {h:H3} {ns:List Int} {i:Int}:zL s h (.x (.scr ns)) (.x (.int i))=(atI (ns.map .int) i).map .v:=by
 unfold zL yB oIxT oIxL oIxS;simp only [rdl];cases atI (ns.map V3.int) i <;> rfl
theorem sMt_ap {op:FM} {p:P3} {a:A3} {s:S3} {h:H3}:sMt op p a s h=mtO op p a (fun s h _=> .nx s h) s h:=rfl
theorem mAppend_ok {xs:List V3} {y:V3} (h:xs.length < sizeLine):yD xs [y]=some (xs++[y],.non):=by unfold yD;simp only [if_pos h]
theorem yn:1000000≤sizeLine:=by decide
theorem sz0:(0≤sizeLine)=True:=by simp
theorem sz1:(1≤sizeLine)=True:=eq_true (by have:=yn;omega)
theorem sz2:(2≤sizeLine)=True:=eq_true (by have:=yn;omega)
theorem sz3:(3≤sizeLine)=True:=eq_true (by have:=yn;omega)
theorem sz4:(4≤sizeLine)=True:=eq_true (by have:=yn;omega)
theorem sz5:(5≤sizeLine)=True:=eq_true (by have:=yn;omega)
def gb (g:G3) (b:D3) (x:V3) (s:S3) (h:H3):O3:=match g x s with
 | some s1=>b s1 h
 | none=> .no
theorem zha {Q:Res Vl→Prop} {k n:Nat} {b:D3} {vs:List V3} {h:H3} (hl:vs.length=k) (q:Q ((b (start3 n vs) h).res)):Q (fun3 k n b vs h):=by
 unfold fun3;rw [if_pos hl];exact q
theorem zna {α:Type} {p:P3} {g:G3} {b:D3} {s:S3} {h:H3} {x:V3} {ok:H3→Prop} {enc:α→V3} {l:List α} (ep:p s h= .ok (.x x) h) (hw:yr h x=some (l.map enc,ok))
  (I:Nat→S3→Prop) (h0:I 0 s) (step: ∀(i:Nat) a s,l[i]? =some a→I i s→∃s2,gb g b (enc a) s h= .nx s2 h∧I (i+1) s2): ∃s',zx (iL p) g b s h= .nx s' h∧I l.length s':=by
 have hf:zx (iL p) g b s h=zt ok g b (l.map enc) s h:=by
  unfold zx iL;simp only [ep,Res.bind,Res.bindS,hw]
 rw [hf]
 have:=zij (ok:=ok) (g:=g) (b:=b) (h:=h) I (xs:=l.map enc) (s:=s) (zen hw).1 h0 fun i x s hx hI=>by
  rw [List.getElem?_map] at hx
  obtain ⟨a,ha,rfl⟩:=Option.map_eq_some_iff.1 hx
  obtain ⟨s2,e,hI2⟩:=step i a s ha hI
  unfold gb at e
  cases q:g (enc a) s with
  | none=>rw [q] at e;cases e
  | some s1=>rw [q] at e;exact ⟨s1,s2,rfl,e,hI2⟩
 rwa [List.length_map] at this
theorem zmv {Q:O3→Prop} {α:Type} {p:P3} {g:G3} {b r:D3} {s:S3} {h:H3} {x:V3} {ok:H3→Prop} {enc:α→V3} {l:List α} (ep:p s h= .ok (.x x) h) (hw:yr h x=some (l.map enc,ok))
  (I:Nat→S3→Prop) (h0:I 0 s) (step: ∀(i:Nat) a s,l[i]? =some a→I i s→∃s2,gb g b (enc a) s h= .nx s2 h∧I (i+1) s2) (k: ∀s',I l.length s'→Q (r s' h)):Q (sSeq (zx (iL p) g b) r s h):=by
 obtain ⟨s',e,hI⟩:=zna ep hw I h0 step
 rw [ze0 e];exact k s' hI
theorem zl3 {a:A3} {g:G3} {b:D3} {s:S3} {h:H3} {j:Int} (ea:a s h= .ok [.x (.int j)] h) (hj: -(2 ^ 62)≤j∧j < 2 ^ 62)
  (I:Nat→S3→Prop) (h0:I 0 s) (step: ∀(i:Nat) s,i < j.toNat→I i s→∃s2,gb g b (.int (i:Int)) s h= .nx s2 h∧I (i+1) s2): ∃s',zx (yS a) g b s h= .nx s' h∧I j.toNat s':=by
 have hf:zx (yS a) g b s h=zt (fun _=>True) g b ((List.range j.toNat).map fun k=> .int (0+((k:Nat):Int))) s h:=by
  unfold zx yS;simp only [ea,Res.bind,Res.bindS,if_pos hj]
 rw [hf]
 have:=zij (ok:=fun _=>True) (g:=g) (b:=b) (h:=h) I (xs:=(List.range j.toNat).map fun k=> .int (0+((k:Nat):Int))) (s:=s) trivial h0 fun i x s hx hI=>by
  have hi:i < j.toNat:=by
   have:=List.getElem?_eq_some_iff.1 hx
   simpa using this.1
  rw [List.getElem?_map,List.getElem?_range hi] at hx
  cases hx
  obtain ⟨s2,e,hI2⟩:=step i s hi hI
  simp only [Int.zero_add]
  unfold gb at e
  cases q:g (.int i) s with
  | none=>rw [q] at e;cases e
  | some s1=>rw [q] at e;exact ⟨s1,s2,rfl,e,hI2⟩
 rwa [List.length_map,List.length_range] at this
theorem zms {Q:O3→Prop} {a:A3} {g:G3} {b r:D3} {s:S3} {h:H3} {j:Int} (ea:a s h= .ok [.x (.int j)] h) (hj: -(2 ^ 62)≤j∧j < 2 ^ 62)
  (I:Nat→S3→Prop) (h0:I 0 s) (step: ∀(i:Nat) s,i < j.toNat→I i s→∃s2,gb g b (.int (i:Int)) s h= .nx s2 h∧I (i+1) s2) (k: ∀s',I j.toNat s'→Q (r s' h)):Q (sSeq (zx (yS a) g b) r s h):=by
 obtain ⟨s',e,hI⟩:=zl3 ea hj I h0 step
 rw [ze0 e];exact k s' hI
theorem yo {Q:Res Vl→Prop} {a b:D3} {s s1:S3} {h h1:H3} (e:a s h= .nx s1 h1) (q:Q ((b s1 h1).res)):Q ((sSeq a b s h).res):=by rw [ze0 e];exact q
theorem zl4 {Q:Res Vl→Prop} {a:A3} {g:G3} {b r:D3} {s:S3} {h:H3} {j:Int} (ea:a s h= .ok [.x (.int j)] h) (hj: -(2 ^ 62)≤j∧j < 2 ^ 62)
  (I:Nat→S3→Prop) (h0:I 0 s) (step: ∀(i:Nat) s,i < j.toNat→I i s→∃s2,gb g b (.int (i:Int)) s h= .nx s2 h∧I (i+1) s2) (k: ∀s',I j.toNat s'→Q ((r s' h).res)):Q ((sSeq (zx (yS a) g b) r s h).res):=
 zms (Q:=fun o=>Q o.res) ea hj I h0 step k
theorem zmf {Q:Res Vl→Prop} {α:Type} {p:P3} {g:G3} {b r:D3} {s:S3} {h:H3} {x:V3} {ok:H3→Prop} {enc:α→V3} {l:List α} (ep:p s h= .ok (.x x) h) (hw:yr h x=some (l.map enc,ok))
  (I:Nat→S3→Prop) (h0:I 0 s) (step: ∀(i:Nat) a s,l[i]? =some a→I i s→∃s2,gb g b (enc a) s h= .nx s2 h∧I (i+1) s2) (k: ∀s',I l.length s'→Q ((r s' h).res)):Q ((sSeq (zx (iL p) g b) r s h).res):=
 zmv (Q:=fun o=>Q o.res) ep hw I h0 step k
end L3
namespace L2
open PySem PySem.Spec PySem.W PyProof.Rows
def yi (j:Int):List Int:=(List.range j.toNat).map fun k:Nat=>(k:Int)
def rLr:List V→Hp→VK→Prop:=fun xs H Q=> ∃j:Int,xs=[.int j]∧ -1000000≤j∧j≤1000000∧∀l,H l=none→Q (.ref l) (zg H l (.lst ((yi j).map V.int)))
section
variable {X:Cx} {e:Expr} {p1 p2 q1 q2:Pos} {t:TA}
theorem zle (hc:X.calm=true) (hg:Gl X "list") (hm:X.mg "list" =none) (hg2:Gl X "range") (hm2:X.mg "range" =none) (ha:PA X [e] t) (he:starEach [e] X.env=[(false,eval e X.env)]:=by rfl)
  (he2:starEach [.Call (.Name "range" p2) [e] [] q2] X.env=[(false,eval (.Call (.Name "range" p2) [e] [] q2) X.env)]:=by rfl):PE X (.Call (.Name "list" p1) [.Call (.Name "range" p2) [e] [] q2] [] q1) (tCB rLr t):=by
 intro pins s σ H Q I h
 refine wpAny_Call_Name_kw (zff I hg hm (show bootBuiltins "list" =some (.type "list") by rfl) ?_ (by decide) (by decide))
 refine PyProof.Rows.callWith_type1 ?_ he2 rfl
 rw [he2]
 show wpAny _ _ (spliced ((false,eval _ X.env)::backTo q1 [])) _ _ s
 refine Calls.spliced_cons ?_
 refine wpAny_Call_Name_kw (zff I hg2 hm2 boot_range ?_ (by decide) (by decide))
 refine PyProof.Rows.callWith_type1 (zo (ha q2 pins s σ H _ I h) fun us s1 ⟨vs,H1,I1,r1,q1⟩=>?_) he rfl
 obtain ⟨j,rfl,h1,h2,q⟩:=q1
 obtain ⟨u,rfl,rx⟩:=zm1 r1
 obtain ⟨tk,rfl⟩:=rx
 refine call_range_1 ?_
 refine Calls.spliced_nil ?_
 have sz:Builtin.Range.rangeSize 0 j 1=((j.toNat:Nat):Int):=by rw [rangeSize_one];split <;> omega
 refine call_list_range (I.ok.hd hc) (IsRange.new ..) (small_one (by omega) (by omega) (by omega) (by omega)) sz (by omega) fun h' tk' acc' c' hk hD hacc=>?_
 have hge:s1.heap.objs.size≤(s1.heap.push {cls:= .type "range",data:= .fields #[.int 0 s1.toks,.int j tk,.int 1 (s1.toks+1)]}).objs.size:=by rw [Heap.size_push];omega
 have rv:Vals ((yi j).map V.int) acc'.toList:=by
  refine L2.Paired.of_get (by have h0:=hacc.1;simp only [yi,List.length_map,List.length_range,Array.length_toList];omega) fun i x v hx hv=>?_
  have hi:i < j.toNat:=by have:=(List.getElem?_eq_some_iff.1 hx).1;simpa [yi] using this
  obtain ⟨t',e⟩:=hacc.2 i v (by rw [←Array.getElem?_toList];exact hv)
  rw [yi,List.map_map,List.getElem?_map,List.getElem?_range hi] at hx
  cases hx
  subst e
  exact ⟨t',by simp⟩
 have hz:((yi j).map V.int).length≤sizeLine:=by
  have:1000000≤sizeLine:=by decide
  simp only [yi,List.length_map,List.length_range];omega
 exact ⟨.ref _,_,I1.laid (t':=tk') (fun b o e=>hk b o (Heap.get?_push_of_some _ e)) hge (show ObjOk X.prog X.w _ h' _ (.lst ((yi j).map V.int)) from ⟨hz,acc'.toList,c',rv,by rw [Array.toArray_toList];exact hD⟩),rfl,q _ (I1.hok.fresh hge)⟩
end
end L2
namespace L3
open PySem PySem.Spec PyProof.Rows L2
section
variable {X:Cx} {κ:Kx} {E:XK} {e:Expr} {p1 p2 q1 q2:Pos} {t:A3}
def yW:FB:=fun s h fs=>match fs with
 | [.x (.int j)]=>if -1000000≤j∧j≤1000000 then some (.m (.lst ((yi j).map V3.int))) else none
 | _=>none
theorem zso:qj κ rLr yW:=fun F σ H fs z vs Q rel r e k=>by
 unfold yW at e
 split at e
 ·rename_i j
  obtain ⟨v,rfl,rv⟩:=L3.p1 r
  cases (show Rep κ F.β F.O H (.int j) v from rv)
  by_cases hj: -1000000≤j∧j≤1000000
  ·rw [if_pos hj] at e;cases e
   exact ⟨j,rfl,hj.1,hj.2,fun l hl=>k _ _ (yv hl) (Post.lst rel hl (zht _))⟩
  ·rw [if_neg hj] at e;cases e
 ·cases e
theorem zg5 (hc:X.calm=true) (hg:Gl X "list") (hm:X.mg "list" =none) (hg2:Gl X "range") (hm2:X.mg "range" =none) (ha:PA X [e] (zy κ E t)) (he:starEach [e] X.env=[(false,eval e X.env)]:=by rfl)
  (he2:starEach [.Call (.Name "range" p2) [e] [] q2] X.env=[(false,eval (.Call (.Name "range" p2) [e] [] q2) X.env)]:=by rfl):PE X (.Call (.Name "list" p1) [.Call (.Name "range" p2) [e] [] q2] [] q1) (zf κ E (eB yW t)):=
 zZ (zle hc hg hm hg2 hm2 ha he he2) fun _ _ _ h=>te_b zso h
end
section
variable {X:Cx} {κ:Kx} {E:XK} {F:Fr} {σ:L2.St} {H:Hp} {Q:VK} {o:Expr} {apos cpos:Pos}
def eMt0 (op:FM) (p:P3):E3:=fun s h=>(p s h).bind fun f h1=>match f with
 | .x (.loc n)=>match rdm s h1 (.x (.loc n)) with
  | some xs=>match op xs [] with
   | some (ys,r)=> .ok (.v r) (h1.set n (.lst ys))
   | none=> .no
  | none=> .no
 | _=> .no
theorem zs3 {r:V→List V→Hp→VK→Prop} {op:FM} {dp:P3} (hs:zi2 κ r op) (h:zf κ E (eMt0 op dp) σ H Q):tBM0 κ.K "list" r (zn κ E dp) σ H Q:=by
 obtain ⟨F,rel,o⟩:=h
 refine (zQ (K:=kP κ) zF rel o).mono fun v H1 ⟨β1,h1,f,e1,⟨r1,rf⟩,o1⟩=>?_
 match f,rf,o1 with
 | .x (.loc n),rf,o1=>
  cases q:rdm F.s h1 (.x (.loc n)) with
  | none=>simp only [q] at o1;exact o1.elim
  | some xs=>
   simp only [q] at o1
   obtain ⟨a,ys,rfl,ha,rs⟩:=ze1 (F:=F.to β1 h1) r1 rf q
   refine ⟨.inl ⟨rfl,ys,.of ha⟩,?_⟩
   cases q3:op xs [] with
   | none=>simp only [q3] at o1;exact o1.elim
   | some w=>
    obtain ⟨zs,rt⟩:=w
    simp only [q3] at o1
    have hc:h1[n]? =some (.lst xs):=by
     have q:(match h1[n]? with | some (.lst xs)=>some xs | _=>none)=some xs:=q
     split at q
     ·rename_i z;cases q;exact z
     ·cases q
    obtain ⟨a',hb,_⟩: ∃a',β1[n]? =some (some a')∧CellR κ β1 F.O H1 (.lst xs) a':=by
     rcases r1.heap.cell n _ hc with z | z
     ·cases z
     ·exact z
    have ea:a=a':=by
     cases (show Rep κ β1 F.O H1 (.loc n) (.ref a) from rf) with
     | loc _ k=>have:=k a' hb;cases this;rfl
    subst ea
    refine hs β1 F.O H1 a xs zs [] ys [] rt _ ha rs .nil q3 fun us' rt' r1' r2'=>?_
    have ex:Ext No β1 H1 β1 (zg H1 a (.lst us')):=zg0 hb ⟨_,ha⟩
    have rr:=Rel.next (F:=F.to β1 h1) r1 ex (r1.heap.wrLoc hb (c':= .lst zs) ⟨us',zI,r1'.ext0 ex⟩)
    exact o1 β1 rt' _ ex ⟨rr,r2'.ext0 ex⟩
theorem zve {name:Str} {id:String} {r:V→List V→Hp→VK→Prop} {op:FM} {dp:P3} (hs:zi2 κ r op) (hK:X.K=κ.K) (slot:Slot "list" name id) (hty:typeOf (.builtin id)=pure (.type "method_descriptor")) (hm:MtR X id r) (ho:PE X o (zn κ E dp))
  (hbase:attributeBase o name X.env (eval o X.env)=eval o X.env:=by rfl) (hline:(apos.endLine==cpos.line)=true:=by rfl):PE X (.Call (.Attribute o name apos) [] [] cpos) (zf κ E (eMt0 op dp)):=
 zZ (zpz PySem.F.plainAttrs_list slot hty hm ho hbase hline) fun σ H Q h=>by rw [hK];exact zs3 hs h
end
theorem zvj {base:Heap} {x1 x2:Str} {M:Mdf} {q:Str} {mk:Addr→Addr→Value→Addr→Value→Obj} (hM:MdOk mk M) (hI:M.In q base) (hne:(x2==x1)=false):Held base [(x1,M.a1),(x2,M.a2)] [x1,x2] [M.w1,M.w2]:=by
 have l1:([(x1,M.a1),(x2,M.a2)]:List (Str×Addr)).lookup x1=some M.a1:=by simp [List.lookup_cons]
 have l2:([(x1,M.a1),(x2,M.a2)]:List (Str×Addr)).lookup x2=some M.a2:=by rw [List.lookup_cons,hne];simp
 have hx:x1≠x2:=fun z=>by subst z;simp at hne
 have inv: ∀x c,([(x1,M.a1),(x2,M.a2)]:List (Str×Addr)).lookup x=some c→(x=x1∧c=M.a1)∨(x=x2∧c=M.a2):=fun x c e=>by
  rw [List.lookup_cons] at e
  cases h:x==x1 with
  | true=>rw [h] at e;cases e;exact .inl ⟨by simpa using h,rfl⟩
  | false=>
   rw [h] at e
   simp only [List.lookup_cons] at e
   cases h2:x==x2 with
   | true=>rw [h2] at e;cases e;exact .inr ⟨by simpa using h2,rfl⟩
   | false=>rw [h2] at e;cases e
 refine ⟨fun x hx=>?_,fun x y c e1 e2=>?_,fun x c e=>?_⟩
 ·simp only [List.mem_cons,List.not_mem_nil,or_false] at hx
  rcases hx with rfl | rfl
  ·exact ⟨_,l1⟩
  ·exact ⟨_,l2⟩
 ·rcases inv x c e1 with ⟨rfl,rfl⟩ | ⟨rfl,rfl⟩ <;> rcases inv y _ e2 with ⟨rfl,z⟩ | ⟨rfl,z⟩
  ·rfl
  ·exact absurd z hM.ne
  ·exact absurd z.symm hM.ne
  ·rfl
 ·rcases inv x c e with ⟨rfl,rfl⟩ | ⟨rfl,rfl⟩
  ·obtain ⟨o,h1,h2⟩:=hI.c1
   refine ⟨o,_,h1,h2,fun i hi=>?_⟩
   match i,hi with
   | 0,_=>exact ⟨_,rfl,hM.r1⟩
   | 1,hi=>exact absurd (Option.some.inj hi).symm hx
  ·obtain ⟨o,h1,h2⟩:=hI.c2
   refine ⟨o,_,h1,h2,fun i hi=>?_⟩
   match i,hi with
   | 0,hi=>exact absurd (Option.some.inj hi) hx
   | 1,_=>exact ⟨_,rfl,hM.r2⟩
end L3
namespace L2
open PySem PySem.Spec PyProof.Rows
def zo4 (T:Addr) (H:Hp):Prop:=H T=some (.tbl #[])∧∀b,b≠T→H b=none∨∃o xs,H b=some (.frz o (.lst xs))
theorem zly {P:Program} {w:World} {K:PySem.W.Frag} {mg mb:Str→Option Value} {CX:yu} {k:Nat} {fa a c T:Addr} {fd:FuncData} {x:Str} {sp:Sp} {s₁:Shared} {vs:List Value} {ns:List Int}
  (KX:K.In s₁.heap) (hns:s₁.heap.Ns mainGlobals mg) (hb:s₁.heap.Ns builtinsNs mb) (hbb: ∀x:Str,x≠"__name__" →mb x=bootBuiltins x) (hlim:s₁.heap.NoLimit) (hg:s₁.gens= #[])
  (ha:s₁.heap.get? a=some {cls:= .type "list",data:= .seq vs.toArray}) (hi:IntsAre vs ns) (hl:ns.length≤sizeLine) (hr:Room k callerA)
  (hcd:PySem.W.CodeHd s₁.heap c T) (htb:s₁.heap.get? T=some (PySem.W.tabObj #[])) (hKT:K.lookup T=none) (hba:s₁.heap.BuiltinsAt mg T)
  (F: ∀base:Heap,K.In base→base.Ns mainGlobals mg→PySem.W.CodeHd base c T→base.BuiltinsAt mg T→FnOk P w K mg base CX k fa fd [x] sp) (hbind: ∀(s:Shared) (u:Value),BindsTo s fd ⟨[u],[]⟩ [(x,u)])
  (hsp: ∀H:Hp,zo4 T H→SqL K H a (ns.map V.int)→sp [.ref a] H (fun v _=>v= .bl true) fun _ _ _=>False)
  (hCX: ∀H e s',CX [] H s₁ (fun _ _ _=>False) e s'→False):
  codeAny (model P w) callerA (.call (.ref fa) ⟨[.ref a],[]⟩) (fun r s'=>r= .ok (.ret (.bool true))∧OldK s₁.heap s'.heap∧s'.os=s₁.os∧AllBare s'.gens) s₁:=by
 have rv:=zho hi
 have lenV:=hi.length
 have aT:a≠T:=fun z=>by subst z;rw [ha] at htb;cases htb
 have core: ∀H:Hp,zo4 T H→SqL K H a (ns.map V.int)→HOk P w H s₁.heap→(∀b,H b≠none→b=a∨b=T)→(H a≠none→K.lookup a=none)→
   codeAny (model P w) callerA (.call (.ref fa) ⟨[.ref a],[]⟩) (fun r s'=>r= .ok (.ret (.bool true))∧OldK s₁.heap s'.heap∧s'.os=s₁.os∧AllBare s'.gens) s₁:=by
  intro H hO hS hok hA hK
  have base_of: ∀{b:Addr} {o:Obj},s₁.heap.get? b=some o→H b=none→(zM s₁.heap H).get? b=some o:=fun e n=>zjh e n
  have un: ∀{b:Addr} {o:Obj},s₁.heap.get? b=some o→o.cls≠ .type "list" →o.cls≠ .none→H b=none:=fun {b o} e n1 n2=>by
   cases q:H b with
   | none=>rfl
   | some u=>
    rcases hA b (by rw [q];simp) with rfl | rfl
    ·rw [ha] at e;cases e;exact absurd rfl n1
    ·rw [htb] at e;cases e;exact absurd rfl n2
  have noA: ∀{b:Addr} {o:Obj} {es:Array DictEntry} {ep:Nat},s₁.heap.get? b=some o→o.data= .dict es ep→H b=none:=fun {b o es ep} e d=>by
   cases q:H b with
   | none=>rfl
   | some u=>
    rcases hA b (by rw [q];simp) with rfl | rfl
    ·rw [ha] at e;cases e
     have d':Data.seq vs.toArray _=Data.dict es ep:=d
     cases d'
    ·rw [htb] at e;cases e
     have d':Data.fields #[]=Data.dict es ep:=d
     cases d'
  have nsK: ∀{b:Addr} {m:Str→Option Value},s₁.heap.Ns b m→(zM s₁.heap H).Ns b m:=fun {b m} ⟨o,es,ep,e,d,r⟩=>⟨o,es,ep,base_of e (noA e d),d,r⟩
  have hKb:K.In (zM s₁.heap H):=fun b o e=>base_of (KX b o e) (by
   cases q:H b with
   | none=>rfl
   | some u=>
    rcases hA b (by rw [q];simp) with rfl | rfl
    ·rw [hK (by rw [q];simp)] at e;cases e
    ·rw [hKT] at e;cases e)
  have hM:Mod K mg (zM s₁.heap H):=⟨hKb,nsK hns,⟨mb,nsK hb,hbb⟩,let ⟨mc,h1,h2⟩:=hlim;⟨mc,nsK h1,h2⟩⟩
  have hcb:PySem.W.CodeHd (zM s₁.heap H) c T:=by
   obtain ⟨o,ws,fl,tf,fs,tg,inF,tx,tt,e,d,r⟩:=hcd
   exact ⟨o,ws,fl,tf,fs,tg,inF,tx,tt,base_of e (un e (by rw [d];decide) (by rw [d];decide)),d,r⟩
  have hbb':(zM s₁.heap H).BuiltinsAt mg T:=by
   obtain ⟨bm,o,e1,e2,e3,e4,e5,d,r⟩:=hba
   exact ⟨bm,o,e1,e2,e3,e4,base_of e5 (un e5 (by rw [d];decide) (by rw [d];decide)),d,r⟩
  have e0:Env0 P w K mg (zM s₁.heap H) callerA [] s₁ H:=⟨rfl,hM,fun b o e=>znk e,Nat.le_of_eq (zhh _ _),trivial,fun b hb=>absurd (show b∈([]:List Addr) from hb) (by simp),hok,.of_eq hg⟩
  refine codeAny_mono ((F _ hKb (nsK hns) hcb hbb').run callerA [] s₁ H ⟨[.ref a],[]⟩ [.ref a] [.ref a] _ _ hr e0 (hbind s₁ (.ref a)) (.cons rfl .nil) (hsp H hO hS)) fun r s' h=>?_
  cases r with
  | error e=>exact (hCX H e s' h).elim
  | ok fl=>
   cases fl with
   | next=>exact False.elim h
   | brk=>exact False.elim h
   | cont=>exact False.elim h
   | ret u=>
    obtain ⟨v,H',os,bare,un',hok',r',q⟩:=h
    have q':v= .bl true:=q
    subst q'
    obtain rfl:u=Value.bool true:=r'
    have isT:isCodeTable s₁.heap T:=by
     obtain ⟨o,ws,fl,tf,fs,tg,inF,tx,tt,e,d1,d2,d3,_⟩:=hcd
     exact ⟨c,o,ws,e,d1,d2,d3⟩
    obtain ⟨more,hT'⟩:=un'.tbls T #[] hO.1
    have gT:s'.heap.get? T=some {cls:= .none,data:= .fields (#[]++more)}:=hok' T _ hT'
    refine ⟨rfl,⟨fun b o e=>?_,fun b o e=>un'.there b o e (by simp)⟩,os,bare⟩
    by_cases hbT:b=T
    ·subst hbT
     rw [htb] at e;cases e
     exact .inr (.inl ⟨isT,rfl,#[],more,rfl,gT⟩)
    ·refine .inl ?_
     cases q:H b with
     | none=>exact un'.keep b o e q (by intro z;exact absurd (show b∈([]:List Addr) from z) (by simp)) (by simp)
     | some u=>
      rcases hO.2 b hbT with z | ⟨ob,xs,z⟩
      ·rw [q] at z;cases z
      ·have z2:=un'.frzs b ob _ z
       obtain ⟨e1,_⟩:=hok b _ z
       obtain ⟨e2,_⟩:=hok' b _ z2
       rw [e] at e1;cases e1
       exact e2
 have tOk: ∀H:Hp,ObjOk P w H s₁.heap T (.tbl #[]):=fun H=>htb
 cases hk:K.lookup a with
 | some o=>
  have e:=KX a o hk
  rw [ha] at e
  cases e
  refine core (zg (fun _=>none) T (.tbl #[])) ⟨zI,fun b hb=> .inl (zl hb)⟩ (.inr ⟨_,vs.toArray,_,hk,rfl,rfl,rfl,by rw [List.size_toArray,lenV];exact hl,by simpa using rv⟩) (fun b u z=>?_) (fun b z=> .inr (Classical.byContradiction fun n=>z (zl n))) fun z=>absurd (zl aT) z
  by_cases hb:b=T
  ·subst hb;rw [zI] at z;cases z;exact tOk _
  ·rw [zl hb] at z;cases z
 | none=>
  refine core (zg (fun b=>if b=a then some (.frz {cls:= .type "list",data:= .seq vs.toArray} (.lst (ns.map V.int))) else none) T (.tbl #[])) ⟨zI,fun b hb=>?_⟩ (.inl (.inr ⟨{cls:= .type "list",data:= .seq vs.toArray},by rw [zl aT];exact if_pos rfl⟩)) (fun b u z=>?_) (fun b z=>?_) fun _=>hk
  ·rw [zl hb]
   by_cases hb:b=a
   ·exact .inr ⟨_,_,if_pos hb⟩
   ·exact .inl (if_neg hb)
  ·by_cases hbT:b=T
   ·subst hbT;rw [zI] at z;cases z;exact tOk _
   ·rw [zl hbT] at z
    by_cases hb:b=a
    ·have z':=(if_pos hb).symm.trans z
     cases z'
     subst hb
     exact ⟨ha,by rw [List.length_map];exact hl,vs,_,rv,ha⟩
    ·have z':=(if_neg hb).symm.trans z
     cases z'
  ·by_cases hbT:b=T
   ·exact .inr hbT
   ·rw [zl hbT] at z
    by_cases hb:b=a
    ·exact .inl hb
    ·exact absurd (if_neg hb) z
end L2
namespace L3
open PySem PySem.Spec PyProof.Rows L2
def spLT (K:PySem.W.Frag) (T:Addr):Sp:=fun vs H Q _=> ∃(a:Addr) (ns:List Int),vs=[.ref a]∧ns.length≤63∧SqL K H a (ns.map V.int)∧zo4 T H∧∀H',Q (.bl true) H'
theorem spLT_of {κ:Kx} {f:F3} (h: ∀ns:List Int,ns.length≤63→∃h',f [.scr ns] [.tab]= .ok (.v (.bl true)) h') {vs:List V} {H:Hp} {Q:VK} {E:XK} (q:spLT κ.K κ.tb vs H Q E):zk κ 1 f vs H Q E:=by
 obtain ⟨a,ns,rfl,hn,hS,hO,hQ⟩:=q
 obtain ⟨h',e⟩:=h ns hn
 refine ⟨fun _=>False,[some κ.tb],[.scr ns],[.tab],rfl,⟨rfl,fun i j a h1 h2=>?_,fun a h=>h.elim,fun a h=>h.elim,fun i a h=>?_,fun i c h=>?_⟩,.cons ?_ .nil,?_⟩
 ·have hi:=(List.getElem?_eq_some_iff.mp h1).1
  have hj:=(List.getElem?_eq_some_iff.mp h2).1
  simp at hi hj;omega
 ·have hi:=(List.getElem?_eq_some_iff.mp h).1
  have hi0:i=0:=by simpa using hi
  subst hi0
  have h:some κ.tb=some a:=by simpa using h
  cases h
  exact ⟨_,hO.1,by intro ys z;cases z⟩
 ·have hi:=(List.getElem?_eq_some_iff.mp h).1
  have hi0:i=0:=by simpa using hi
  subst hi0
  have h:C3.tab=c:=by simpa using h
  subst h
  exact .inr ⟨κ.tb,rfl,rfl,hO.1⟩
 ·have nT: ∀{u},H a=some u→u≠ .tbl #[]→a≠κ.tb:=fun {u} e n z=>by subst z;rw [hO.1] at e;cases e;exact n rfl
  rcases hS with hS | hS
  ·rcases hS with hS | ⟨o,hS⟩
   ·rcases hO.2 a (nT hS (by intro z;cases z)) with z | ⟨o,xs,z⟩
    ·rw [hS] at z;cases z
    ·rw [hS] at z;cases z
   ·exact .scr hS (by have:=nT hS (by intro z;cases z);simpa using this) fun z=>z
  ·exact .scrK hS
 ·rw [e]
  intro β' v H' ex p
  obtain ⟨_,p⟩:=p
  cases p
  exact hQ H'
end L3
namespace L4
open PySem PySem.W PyProof.Rows L2
def zoe (T:Addr):Option Value→Bool
 | some (.ref a)=>Nat.beq a T
 | _=>false
def kStr:Value→Bool
 | .str _ _=>true
 | _=>false
def kInt:Value→Bool
 | .int _ _=>true
 | _=>false
def kBl:Value→Bool
 | .bool _=>true
 | _=>false
def zr4 (T:Addr):Option Obj→Bool
 | some ⟨.type n,_,.fields vs,_⟩=>n=="code" && zoe T vs[11]? && zoe T (some (vs.getD 11 .none)) && kStr (vs.getD 18 .none) && kInt (vs.getD 7 .none) && kBl (vs.getD 9 .none) && kInt (vs.getD 10 .none)
 | _=>false
def tblB:Option Obj→Bool
 | some ⟨.none,none,.fields ⟨[]⟩,⟨[]⟩⟩=>true
 | _=>false
def tabB (K:Frag) (x:Str) (h:Heap):Bool:=match tabIn K x with
 | some (c,T)=>zr4 T (h.get? c) && tblB (h.get? T) && !Nat.beq c T && (K.lookup T).isNone && !Nat.beq mainGlobals T
 | none=>false
def zrx (A:Ask) (x:Str) (h:Heap):=(seen A h,tabB (frag A.at_ h) x h)
def claimT (A:Ask) (x:Str) (N:Nat) (p:Program) (w:World) (os:OsState):=zpj p (lawView A p) (looseOf p) (zrx A x) N w os
def goalT (A:Ask) (p:Program):=some (true,openGood (lawView A p) (looseOf p),(good p A,true))
structure Tab (K:Frag) (x:Str) (h:Heap) (c T:Addr):Prop where
 tab:tabIn K x=some (c,T)
 hd:CodeHd h c T
 tb:h.get? T=some (tabObj #[])
 k:K.lookup T=none
 m:mainGlobals≠T
def YT (A:Ask) (p:Program) (x:Str) (h:Heap):Prop:=∃(K:Frag) (c T:Addr),K.In h∧seenK A K=good p A∧Tab K x h c T
theorem zjv {T:Addr} {v:Option Value} (h:zoe T v=true):v=some (.ref T):=by
 unfold zoe at h
 split at h
 ·rw [Nat.eq_of_beq_eq_true h]
 ·cases h
theorem zrj {v:Value} (h:kStr v=true): ∃a b,v= .str a b:=by cases v <;> first | exact ⟨_,_,rfl⟩ | cases h
theorem zng {v:Value} (h:kInt v=true): ∃a b,v= .int a b:=by cases v <;> first | exact ⟨_,_,rfl⟩ | cases h
theorem zsb {v:Value} (h:kBl v=true): ∃a,v= .bool a:=by cases v <;> first | exact ⟨_,rfl⟩ | cases h
theorem zuf {K:Frag} {x:Str} {h:Heap} (e:tabB K x h=true): ∃c T,Tab K x h c T:=by
 unfold tabB at e
 split at e
 ·rename_i c T ht
  simp only [Bool.and_eq_true,Bool.not_eq_true'] at e
  obtain ⟨⟨⟨⟨e1,e2⟩,e3⟩,e4⟩,e5⟩:=e
  have cT:c≠T:=fun z=>by subst z;rw [Nat.beq_refl] at e3;cases e3
  have mT:mainGlobals≠T:=fun z=>by rw [←z,Nat.beq_refl] at e5;cases e5
  refine ⟨c,T,ht,?_,?_,Option.isNone_iff_eq_none.mp e4,mT⟩
  ·unfold zr4 at e1
   split at e1
   ·rename_i n od vs sl hc
    simp only [Bool.and_eq_true] at e1
    obtain ⟨⟨⟨⟨⟨⟨a0,a1⟩,a2⟩,a3⟩,a4⟩,a5⟩,a6⟩:=e1
    obtain ⟨f1,f2,b3⟩:=zrj a3
    obtain ⟨g1,g2,b4⟩:=zng a4
    obtain ⟨i1,b5⟩:=zsb a5
    obtain ⟨j1,j2,b6⟩:=zng a6
    have n0:n="code" :=beq_iff_eq.mp a0
    subst n0
    exact ⟨_,vs,f1,f2,g1,g2,i1,j1,j2,hc,rfl,rfl,zjv a1,Option.some.inj (zjv a2),b3,b4,b5,b6,cT⟩
   ·cases e1
  ·unfold tblB at e2
   split at e2
   ·rename_i hT;exact hT
   ·cases e2
 ·cases e
theorem seenT_ok {A:Ask} {p:Program} {x:Str} (w:World) (s:Shared) (e:zrx A x s.heap=(good p A,true)):YT A p x s.heap:=by
 unfold zrx at e
 simp only [Prod.mk.injEq] at e
 obtain ⟨c,T,t⟩:=zuf e.2
 exact ⟨_,c,T,zqg,e.1,t⟩
theorem seenT_keeps {A:Ask} {p:Program} {x:Str} (w:World) (h h':Heap) (y:YT A p x h) (k: ∀b o,h.get? b=some o→h'.get? b=some o):YT A p x h':=by
 obtain ⟨K,c,T,a,b,t⟩:=y
 exact ⟨K,c,T,a.keeps k,b,t.tab,L2.CodeHd.keeps t.hd k,k _ _ t.tb,t.k,t.m⟩
theorem walk_oneT {l:OpenLaw} {n k:Nat} {q:Program} {loose:List Str} {XP:(Str→Option Value)→Heap→Prop} {A:Ask} {d:DefRec} {CX:World→yu} {sp:Frag→Addr→Sp} {x y:Str}
  (hn:l.most=some n) (hn2:n≤sizeLine) (hdf:d.params.defaults=[]) (hr:Room k callerA)
  (F: ∀(w:World) (mg:Str→Option Value) (fa c T:Addr) (h:Heap) (K:Frag),K.In h→h.Ns mainGlobals mg→seenK A K=good l.prog A→tabIn K y=some (c,T)→mainGlobals≠T→mg d.name=some (.ref fa)→
   ∃fd:FuncData,(∀(s:Shared) (u:Value),BindsTo s fd ⟨[u],[]⟩ [(x,u)])∧∀base:Heap,K.In base→base.Ns mainGlobals mg→CodeHd base c T→base.BuiltinsAt mg T→FnOk l.prog w K mg base (CX w) k fa fd [x] (sp K T))
  (hsp: ∀(K:Frag) (T:Addr) (H:Hp) (a:Addr) (ns:List Int),ns.length≤n→zo4 T H→SqL K H a (ns.map V.int)→sp K T [.ref a] H (fun v _=>v= .bl true) fun _ _ _=>False)
  (hCX: ∀(w:World) (H:Hp) (s:Shared) (e:Value) (s':Shared),CX w [] H s (fun _ _ _=>False) e s'→False):
  WalkO q loose XP (fun _ h=>YT A l.prog y h) l.row.toRowW d [] (fun f vs=>PySem.call f vs):=by
 refine Att.attach_call hn hdf fun w s0 s1 mg mb fa o pm cd doc a vs ns G Y ho hd hcd hmg hobj hints hlen hg=>?_
 obtain ⟨K,c,T,KX,S,t⟩:=Y
 obtain ⟨fd,hb,hF⟩:=F w mg fa c T _ K KX G.T.g S t.tab t.m hmg
 have hba:s1.heap.BuiltinsAt mg T:=by
  obtain ⟨bm,ob,e1,e2,e3,e4,e5,e6⟩:=G.T.bmain
  refine ⟨bm,ob,e1,e2,fun z=>?_,fun z=>?_,e3,e4,e5,e6⟩
  ·subst z
   obtain ⟨o',es,ep,f1,f2,_⟩:=G.T.g
   rw [e3] at f1;cases f1
   rw [e6] at f2;cases f2
  ·subst z
   rw [t.tb] at e3;cases e3
   cases e6
 exact zly KX G.T.g G.T.b G.T.builtins G.T.nolimit hg hobj hints (Nat.le_trans hlen hn2) hr t.hd t.tb t.k hba hF hb (fun H hO hS=>hsp K T H a ns hlen hO hS) fun H e s'=>hCX w H s1 e s'
end L4
namespace L3
open PySem PySem.Spec PyProof.Rows L2
section
variable {X:Cx} {κ:Kx}
def mtL (l:List (Str×Str×Bool)) (c B:Str):Option Bool:=match l with
 | []=>none
 | (x,y,v)::r=>if x=c∧y=B then some v else mtL r c B
def MtL (κ:Kx) (l:List (Str×Str×Bool)):Prop:=∀c B v,mtL l c B=some v→∃C Ba,κ.cl c=some C∧κ.cl B=some Ba∧PySem.W.exmOne κ.K (.ref C) (.ref Ba)=some v∧PySem.W.kitOne κ.K (.ref C) (.ref Ba)=some v∧ExK κ.K C
theorem MtL.nil:MtL κ []:=fun c B v e=>by cases e
theorem MtL.cons {x y:Str} {v:Bool} {C Ba:Addr} {l:List (Str×Str×Bool)} (h1:κ.cl x=some C) (h2:κ.cl y=some Ba) (h3:PySem.W.exmOne κ.K (.ref C) (.ref Ba)=some v) (h4:PySem.W.kitOne κ.K (.ref C) (.ref Ba)=some v) (h5:ExK κ.K C) (r:MtL κ l):MtL κ ((x,y,v)::l):=fun c B u e=>by
 unfold mtL at e
 by_cases q:x=c∧y=B
 ·rw [if_pos q] at e;obtain ⟨rfl,rfl⟩:=q;cases e
  exact ⟨C,Ba,h1,h2,h3,h4,h5⟩
 ·rw [if_neg q] at e;exact r c B u e
theorem MtL.ok {l:List (Str×Str×Bool)} {B:Str} {Ba:Addr} (h:MtL κ l) (hB:κ.cl B=some Ba):MtOk κ (mtL l) B Ba:=fun c C v hc e=>by
 obtain ⟨C',Ba',a,b,x,_⟩:=h c B v e
 rw [hc] at a;rw [hB] at b;cases a;cases b;exact x
end
end L3
namespace Se
open PySem PySem.Spec PyProof.Rows
section
variable {prog:Program} {w:World} {A:Around} {E:Value→Shared→Prop} {s:Shared}
set_option maxHeartbeats 3200000 in
end
end Se
namespace My
open PySem L2 L3
def mtb:List (Str×Str×Bool):=[(("NoCalendar" :Str),("NoCalendar" :Str),true)]
def zd1:D3:=(sRet (eOp zu (pE (eOp zr (pE (eOp oMul (pE (eOp zu (pV 0) (pE (eC (.int 2147483647))))) (pE (eC (.int 48271))))) (pE (eOp oMul (pE (eC (.int 69621))) (pV 1))))) (pE (eC (.int 2147483647)))))
def f_law_mixed:F3:=fun3 2 2 zd1
theorem zid:zp f_law_mixed 2:=zC
def zbv:D3:=(sSeq (sIf (tE (eOp oLt (pV 1) (pE (eB bLen (aCons (pV 0) aNil))))) (sRet (eOp zL (pV 0) (pV 1))) sSkip) (sRet (eC (.int 0))))
def f_law_cell_at:F3:=fun3 2 2 zbv
theorem za7:zp f_law_cell_at 2:=zC
def zc2:D3:=(zx (yS (aCons (pE (eOp zu (pE (eCall f_law_cell_at (aCons (pV 0) (aCons (pE (eC (.int 0))) aNil)))) (pE (eC (.int 25))))) aNil)) (gN 2) (sSeq (sSet 3 (eCall f_law_mixed (aCons (pE (eCall f_law_cell_at (aCons (pV 0) (aCons (pE (eOp zr (pE (eC (.int 3))) (pV 2))) aNil)))) (aCons (pV 2) aNil)))) (sSet 1 (eOp zr (pV 1) (pE (eOp oMul (pE (eLst (aCons (pE (eOp zu (pV 3) (pE (eC (.int 17))))) aNil))) (pE (eOp zr (pE (eC (.int 1))) (pE (eOp zu (pE (eOp zN (pV 3) (pE (eC (.int 17))))) (pE (eOp zL (pE (eLst (aCons (pE (eC (.int 3))) (aCons (pE (eC (.int 8))) aNil)))) (pE (eOp zu (pE (eOp zN (pE (eCall f_law_cell_at (aCons (pV 0) (aCons (pE (eC (.int 0))) aNil)))) (pE (eC (.int 25))))) (pE (eC (.int 2)))))))))))))))))
def zeq:D3:=(sSeq (sSet 1 (eLst aNil)) (sSeq zc2 (sRetS 1)))
def f_law_some:F3:=fun3 1 4 zeq
theorem ziz:zp f_law_some 1:=zC
def zda:D3:=(zx (iL (pV 0)) (gN 2) (sIf (tAnd3 (tE (eOp ym (pV 1) (pE (eLst aNil)))) (tE (eOp yh (pE (eOp zL (pE (eOp zL (pV 1) (pE (eNeg (pE (eC (.int 1))))))) (pE (eC (.int 1))))) (pV 2)))) (sSeq (sSet 2 (eOp zL (pE (eOp zL (pV 1) (pE (eNeg (pE (eC (.int 1))))))) (pE (eC (.int 1))))) (sMt yD (pV 1) (aCons (pE (eTup (aCons (pE (eOp zr (pE (eOp zL (pE (eMt0 mPop (pV 1))) (pE (eC (.int 0))))) (pE (eC (.int 1))))) (aCons (pV 2) aNil)))) aNil))) (sMt yD (pV 1) (aCons (pE (eTup (aCons (pE (eC (.int 1))) (aCons (pV 2) aNil)))) aNil))))
def zex:D3:=(sSeq (sSet 1 (eGl (eLst aNil))) (sSeq zda (sRetS 1)))
def f_law_runs:F3:=fun3 1 3 zex
theorem ziw:zp f_law_runs 1:=zC
def za2:D3:=(zx (iL (pV 0)) (gT (gsCons (gN 2) (gsCons (gN 3) gsNil))) (sIf (tAnd3 (tP (pV 1)) (tE (eOp yh (pE (eOp zL (pE (eOp zL (pV 1) (pE (eNeg (pE (eC (.int 1))))))) (pE (eC (.int 1))))) (pV 3)))) (zj1 (pV 1) (pE (eNeg (pE (eC (.int 1))))) (eTup (aCons (pE (eOp zr (pE (eOp zL (pE (eOp zL (pV 1) (pE (eNeg (pE (eC (.int 1))))))) (pE (eC (.int 0))))) (pV 2))) (aCons (pV 3) aNil)))) (sMt yD (pV 1) (aCons (pE (eTup (aCons (pV 2) (aCons (pV 3) aNil)))) aNil))))
def zbd:D3:=(sSeq (sSet 1 (eLst aNil)) (sSeq za2 (sRetS 1)))
def f_neighbours_as_one:F3:=fun3 1 4 zbd
theorem zbu:zp f_neighbours_as_one 1:=zC
def zca:D3:=(sSeq (sSet 2 (eCall f_neighbours_as_one (aCons (pV 0) aNil))) (sSeq (sIf (tAnd3 (tP (pV 2)) (tE (eOp yh (pE (eOp zL (pE (eOp zL (pV 2) (pE (eNeg (pE (eC (.int 1))))))) (pE (eC (.int 1))))) (pV 1)))) (sMt mPop (pV 2) aNil) sSkip) (sRetS 2)))
def f_kept_rows:F3:=fun3 2 3 zca
theorem zhs:zp f_kept_rows 2:=zC
def zew:D3:=(sRet (eAnd (eB bIsT (aCons (pV 0) (aCons (pE (eC (.ty "int"))) aNil))) (eNot (eB bIsT (aCons (pV 0) (aCons (pE (eC (.ty "bool"))) aNil))))))
def f_is_whole:F3:=fun3 1 1 zew
theorem zik:zp f_is_whole 1:=zC
def zak:D3:=(sRet (eAnd (eCall f_is_whole (aCons (pV 0) aNil)) (eChain oLe oLe (pV 1) (pV 0) (pV 2))))
def f_is_whole_between:F3:=fun3 3 3 zak
theorem zau:zp f_is_whole_between 3:=zC
def zct:D3:=(sRet (eCall f_is_whole_between (aCons (pV 0) (aCons (pE (eC (.int 0))) (aCons (pE (eC (.int 16))) aNil)))))
def f_is_machines:F3:=fun3 1 1 zct
theorem zdv:zp f_is_machines 1:=zC
def zbp:D3:=(sSeq (sIf (tOr3 (tNot3 (tE (eB bIsT (aCons (pV 0) (aCons (pE (eC (.ty "tuple"))) aNil))))) (tE (eOp ym (pE (eB bLen (aCons (pV 0) aNil))) (pE (eC (.int 2)))))) (sRet (eC (.bl false))) sSkip) (sRet (eAnd (eCall f_is_whole_between (aCons (pE (eOp zL (pV 0) (pE (eC (.int 0))))) (aCons (pE (eC (.int 1))) (aCons (pE (eC (.int 1000000))) aNil)))) (eCall f_is_machines (aCons (pE (eOp zL (pV 0) (pE (eC (.int 1))))) aNil)))))
def f_is_calendar_row:F3:=fun3 1 1 zbp
theorem zeg:zp f_is_calendar_row 1:=zC
def zar:E3:=(zm7 1 [] (iL (pV 0)) (gN 0) tTru (eCall f_is_calendar_row (aCons (pV 0) aNil)))
def zap:D3:=(sSeq (sIf (tOr3 (tNot3 (tE (eB bIsT (aCons (pV 0) (aCons (pE (eC (.ty "list"))) aNil))))) (tE (eOp oGt (pE (eB bLen (aCons (pV 0) aNil))) (pE (eC (.int 16)))))) (sRet (eC (.bl false))) sSkip) (sRet (eB (bAll fun bs=>bs.all id) (aCons (pE zar) aNil))))
def f_are_calendar_rows:F3:=fun3 1 1 zap
theorem zdq:zp f_are_calendar_rows 1:=zC
def zfz:D3:=(sRet (eCall f_is_whole_between (aCons (pV 0) (aCons (pE (eC (.int 1))) (aCons (pE (eC (.int 16))) aNil)))))
def f_is_rest:F3:=fun3 1 1 zfz
theorem zkm:zp f_is_rest 1:=zC
def za1:D3:=(sSeq (sIf (tOr3 (tNot3 (tE (eCall f_are_calendar_rows (aCons (pV 1) aNil)))) (tNot3 (tE (eCall f_is_rest (aCons (pV 2) aNil))))) (ze5 ("NoCalendar" :Str) (aCons (pE (eC (.str ("these are no rows (many, machines) and a rest of machines" :Str)))) aNil)) sSkip) (sSeq (zpd [("Calendar" :Str)] ("stretches" :Str) (pV 0) (eCall f_kept_rows (aCons (pV 1) (aCons (pV 2) aNil)))) (zpd [("Calendar" :Str)] ("beyond" :Str) (pV 0) (eV 2))))
def f_Calendar_init:F3:=fun3 3 3 za1
theorem zcx:zp f_Calendar_init 3:=zC
def zdk:D3:=(sSeq (sMt yD (pV 2) (aCons (pV 0) aNil)) (sRet (eOp zL (pV 1) (pV 0))))
def zbw:F3:=fun3 3 3 zdk
theorem zih:zp zbw 3:=zC
def zbf:D3:=(zx (yS (aCons (pV 1) aNil)) (gN 4) (sSeq (sSet 5 (zfy 0 zbw (aCons (pV 4) aNil))) (sSeq (sFz 5) (sSeq (sIf (tNot3 (tE (eCall f_is_machines (aCons (pV 5) aNil)))) (ze5 ("NoCalendar" :Str) (aCons (pE (eC (.str ("the function tells no number of machines" :Str)))) aNil)) sSkip) (sSeq (sFz 5) (sMt yD (pV 3) (aCons (pE (eTup (aCons (pE (eC (.int 1))) (aCons (pV 5) aNil)))) aNil)))))))
def zcr:D3:=(sSeq (sIf (tNot3 (tE (eCall f_is_whole_between (aCons (pV 1) (aCons (pE (eC (.int 0))) (aCons (pE (eC (.int 200))) aNil)))))) (ze5 ("NoCalendar" :Str) (aCons (pE (eC (.str ("a function is asked for 0 to 200 turns" :Str)))) aNil)) sSkip) (sSeq (sSet 3 (eLst aNil)) (sSeq zbf (sSeq (sFz 3) (sRet (eObj (eNew ("Calendar" :Str) f_Calendar_init (aCons (pE (eCall f_neighbours_as_one (aCons (pV 3) aNil))) (aCons (pV 2) aNil)))))))))
def f_calendar_of:F3:=fun3 3 6 zcr
theorem zge:zp f_calendar_of 3:=zC
def zdm:D3:=(zks (mtL mtb) (aCons (pV 0) (aCons (pV 1) aNil)) (aCons (pE (eB bLen (aCons (pV 0) aNil))) (aCons (pV 2) aNil)) f_calendar_of [(("NoCalendar" :Str),none,(sRet (eC .non)))])
def f_law_made:F3:=fun3 3 3 zdm
theorem zf5:zp f_law_made 3:=zC
def zd0:D3:=(sRet (eAnd (eB bIsT (aCons (pV 0) (aCons (pE (eC (.ty "int"))) aNil))) (eAnd (eNot (eB bIsT (aCons (pV 0) (aCons (pE (eC (.ty "bool"))) aNil)))) (eOp yh (pV 0) (pV 1)))))
def f_law_whole:F3:=fun3 2 2 zd0
theorem zbe:zp f_law_whole 2:=zC
def zcl:D3:=(sRet (eB bMax (aCons (pE (eC (.int 0))) (aCons (pE (eOp zr (pE (eOp oSub (pE (eB bMin (aCons (pV 1) (aCons (pV 3) aNil)))) (pE (eB bMax (aCons (pV 0) (aCons (pV 2) aNil)))))) (pE (eC (.int 1))))) aNil))))
def f_common_count:F3:=fun3 4 4 zcl
theorem zdh:zp f_common_count 4:=zC
def zbk:D3:=(zx (iL (pE (ya [("Calendar" :Str)] ("stretches" :Str) (pV 0)))) (gT (gsCons (gN 5) (gsCons (gN 6) gsNil))) (sSeq (sAug 3 zhg (pE (eOp oMul (pV 6) (pE (eCall f_common_count (aCons (pV 4) (aCons (pE (eOp oSub (pE (eOp zr (pV 4) (pV 5))) (pE (eC (.int 1))))) (aCons (pV 1) (aCons (pV 2) aNil))))))))) (sAug 4 zhg (pV 5))))
def zb8:D3:=(sSeq (sSet 3 (eC (.int 0))) (sSeq (sSet 4 (eC (.int 0))) (sSeq zbk (sRet (eOp zr (pV 3) (pE (eOp oMul (pE (ya [("Calendar" :Str)] ("beyond" :Str) (pV 0))) (pE (eCall f_common_count (aCons (pV 4) (aCons (pV 2) (aCons (pV 1) (aCons (pV 2) aNil)))))))))))))
def f_Calendar_over:F3:=fun3 3 7 zb8
theorem zfc:zp f_Calendar_over 3:=zC
def zcv:D3:=(zx (zri (aCons (pV 0) (aCons (pV 1) aNil))) (gT (gsCons (gN 2) (gsCons (gN 3) gsNil))) (sSeq (sIf (tOr3 (tNot3 (tE (eB bIsT (aCons (pV 2) (aCons (pE (eC (.ty "tuple"))) aNil))))) (tE (eOp ym (pE (eB bLen (aCons (pV 2) aNil))) (pE (eC (.int 2)))))) (sRet (eC (.bl false))) sSkip) (sIf (tOr3 (tNot3 (tE (eCall f_law_whole (aCons (pE (eOp zL (pV 2) (pE (eC (.int 0))))) (aCons (pE (eOp zL (pV 3) (pE (eC (.int 0))))) aNil))))) (tNot3 (tE (eCall f_law_whole (aCons (pE (eOp zL (pV 2) (pE (eC (.int 1))))) (aCons (pE (eOp zL (pV 3) (pE (eC (.int 1))))) aNil)))))) (sRet (eC (.bl false))) sSkip)))
def zdy:D3:=(sSeq (sIf (tOr3 (tNot3 (tE (eB bIsT (aCons (pV 0) (aCons (pE (eC (.ty "list"))) aNil))))) (tE (eOp ym (pE (eB bLen (aCons (pV 0) aNil))) (pE (eB bLen (aCons (pV 1) aNil)))))) (sRet (eC (.bl false))) sSkip) (sSeq zcv (sRet (eC (.bl true)))))
def f_law_pairs:F3:=fun3 2 4 zdy
theorem zhj:zp f_law_pairs 2:=zC
def zb9:D3:=(zx (iL (pE (ya [("Calendar" :Str)] ("stretches" :Str) (pV 0)))) (gT (gsCons (gN 3) (gsCons (gN 4) gsNil))) (sSeq (sAug 2 zhg (pV 3)) (sIf (tE (eOp oLt (pV 1) (pV 2))) (sRetS 4) sSkip)))
def zcs:D3:=(sSeq (sSet 2 (eC (.int 0))) (sSeq zb9 (sRet (ya [("Calendar" :Str)] ("beyond" :Str) (pV 0)))))
def f_Calendar_at:F3:=fun3 2 5 zcs
theorem zdw:zp f_Calendar_at 2:=zC
def zbh:D3:=(sRet (eB bList (aCons (pE (ya [("Calendar" :Str)] ("stretches" :Str) (pV 0))) aNil)))
def f_Calendar_rows:F3:=fun3 1 1 zbh
theorem zcz:zp f_Calendar_rows 1:=zC
def zb1:D3:=(sRet (ya [("Calendar" :Str)] ("beyond" :Str) (pV 0)))
def f_Calendar_rest:F3:=fun3 1 1 zb1
theorem ze9:zp f_Calendar_rest 1:=zC
def zdg:D3:=(zx (yS (aCons (pE (eB bLen (aCons (pV 3) aNil))) aNil)) (gN 5) (sIf (tNot3 (tE (eCall f_law_whole (aCons (pE (y6 ("Calendar" :Str) ("at" :Str) f_Calendar_at (pV 0) (aCons (pV 5) aNil))) (aCons (pE (eOp zL (pV 3) (pV 5))) aNil))))) (sRet (eC (.bl false))) sSkip))
def zes:D3:=(sSeq (sSet 4 (eNew ("Calendar" :Str) f_Calendar_init (aCons (pV 1) (aCons (pV 2) aNil)))) (sSeq (sIf (tOr3 (tNot3 (tE (eCall f_law_pairs (aCons (pE (y6 ("Calendar" :Str) ("rows" :Str) f_Calendar_rows (pV 0) aNil)) (aCons (pE (y6 ("Calendar" :Str) ("rows" :Str) f_Calendar_rows (pV 4) aNil)) aNil))))) (tNot3 (tE (eCall f_law_whole (aCons (pE (y6 ("Calendar" :Str) ("rest" :Str) f_Calendar_rest (pV 0) aNil)) (aCons (pV 2) aNil)))))) (sRet (eC (.bl false))) sSkip) (sSeq zdg (sSeq (sIf (tNot3 (tE (eCall f_law_whole (aCons (pE (y6 ("Calendar" :Str) ("at" :Str) f_Calendar_at (pV 0) (aCons (pE (eB bLen (aCons (pV 3) aNil))) aNil))) (aCons (pV 2) aNil))))) (sRet (eC (.bl false))) sSkip) (sRet (eCall f_law_whole (aCons (pE (y6 ("Calendar" :Str) ("over" :Str) f_Calendar_over (pV 0) (aCons (pE (eC (.int 0))) (aCons (pE (eB bLen (aCons (pV 3) aNil))) aNil)))) (aCons (pE (eOp zr (pE (eB bSum (aCons (pV 3) aNil))) (pV 2))) aNil))))))))
def f_law_like:F3:=fun3 4 6 zes
theorem ziu:zp f_law_like 4:=zC
def zq0:D3:=(sSeq (sSet 1 (eCall f_law_some (aCons (pV 0) aNil))) (sSeq (sSet 2 (eOp zr (pE (eC (.int 1))) (pE (eOp zu (pE (eCall f_law_cell_at (aCons (pV 0) (aCons (pE (eC (.int 1))) aNil)))) (pE (eC (.int 16))))))) (sSeq (sSet 3 (eCall f_law_cell_at (aCons (pV 0) (aCons (pE (eC (.int 2))) aNil)))) (sSeq (sFz 1) (sSeq (sSet 4 (eCall f_law_runs (aCons (pV 1) aNil))) (sSeq (sSet 5 (eB bLen (aCons (pV 1) aNil))) (sSeq (sSet 6 (eGl (eLst aNil))) (sSeq (sIf (tAnd3 (tE (eOp yh (pE (eOp zu (pV 3) (pE (eC (.int 4))))) (pE (eC (.int 3))))) (tE (eOp ym (pV 1) (pE (eLst aNil))))) (sSeq (sSet 5 (eOp zu (pE (eOp zN (pV 3) (pE (eC (.int 4))))) (pE (eB bLen (aCons (pV 1) aNil))))) (sSeq (sSet 7 (eOp zL (pE (eLst (aCons (pE (eC (.int 17))) (aCons (pE (eNeg (pE (eC (.int 1))))) (aCons (pE (eOp zr (pE (eC (.int 18))) (pE (eOp zu (pE (eOp zN (pV 3) (pE (eC (.int 4))))) (pE (eOp oPow (pE (eC (.int 10))) (pE (eC (.int 20))))))))) (aCons (pE (eC (.bl true))) (aCons (pE (eC .non)) (aCons (pE (eC (.str ("3" :Str)))) aNil)))))))) (pE (eOp zu (pE (eOp zN (pV 3) (pE (eC (.int 4))))) (pE (eC (.int 6))))))) (sSeq (sFz 2) (sSeq (sSet 8 (eCall f_law_made (aCons (pE (eOp zr (pE (eOp zr (pE (eSl (pV 1) poN (poS (pV 5)))) (pE (eLst (aCons (pV 7) aNil))))) (pE (eSl (pV 1) (poS (pE (eOp zr (pV 5) (pE (eC (.int 1)))))) poN)))) (aCons (pV 6) (aCons (pV 2) aNil))))) (sRet (eAnd (eOp (oIsN false) (pV 8) (pE (eC .non))) (eOp yh (pV 6) (pE (eB yW (aCons (pE (eOp zr (pV 5) (pE (eC (.int 1))))) aNil)))))))))) sSkip) (sSeq (sIf (tE (eOp yh (pE (eOp zu (pV 3) (pE (eC (.int 4))))) (pE (eC (.int 2))))) (sSet 2 (eOp zL (pE (eLst (aCons (pE (eC (.int 0))) (aCons (pE (eC (.int 17))) (aCons (pE (eOp oSub (pE (eNeg (pE (eC (.int 1))))) (pE (eOp zu (pE (eOp zN (pV 3) (pE (eC (.int 4))))) (pE (eOp oPow (pE (eC (.int 10))) (pE (eC (.int 20))))))))) (aCons (pE (eC (.bl true))) (aCons (pE (eC .non)) (aCons (pE (eC (.str ("3" :Str)))) aNil)))))))) (pE (eOp zu (pE (eOp zN (pV 3) (pE (eC (.int 4))))) (pE (eC (.int 6))))))) sSkip) (sSeq (sFz 2) (sSeq (sFz 1) (sSeq (sSet 8 (eCall f_law_made (aCons (pV 1) (aCons (pV 6) (aCons (pV 2) aNil))))) (sSeq (sIf (tE (eOp ym (pV 6) (pE (eB yW (aCons (pV 5) aNil))))) (sRet (eC (.bl false))) sSkip) (sSeq (sIf (tOr3 (tE (eOp oGt (pE (eB bLen (aCons (pV 4) aNil))) (pE (eC (.int 16))))) (tE (eOp yh (pE (eOp zu (pV 3) (pE (eC (.int 4))))) (pE (eC (.int 2)))))) (sRet (eOp (oIsN false) (pV 8) (pE (eC .non)))) sSkip) (sSeq (sFz 1) (sSeq (sFz 2) (sSeq (sFz 4) (sSeq (sFz 8) (sSeq (sIf (tOr3 (tE (eOp (oIsN false) (pV 8) (pE (eC .non)))) (tNot3 (tE (eCall f_law_like (aCons (pV 8) (aCons (pV 4) (aCons (pV 2) (aCons (pV 1) aNil)))))))) (sRet (eC (.bl false))) sSkip) (sRet (eOp yh (pV 6) (pE (eB yW (aCons (pV 5) aNil))))))))))))))))))))))))
def f_law:F3:=fun3 1 9 zq0
end My
namespace My
open PySem PySem.Spec PyProof.Rows L2 L3
def zY (i:Nat):Stmt:=PySem.Challenge.pw_dueyard_k05_a_calendar_asked.main.body.getD i (.Pass ⟨0,0,0,0⟩)
abbrev zf6:Stmt:=zY 25
theorem zib:FnScope ["_law_cell","_law_k"] ["_law_cell","_law_k"] (zw zf6):=⟨rfl,rfl,rfl,by decide+kernel,rfl,by decide+kernel,by decide+kernel⟩
abbrev zec:Stmt:=zY 22
theorem zgd:FnScope ["_law_script","_law_k"] ["_law_script","_law_k"] (zw zec):=⟨rfl,rfl,rfl,by decide+kernel,rfl,by decide+kernel,by decide+kernel⟩
abbrev zgs:Stmt:=zY 26
theorem sc_law_some:FnScope ["_law_script","_law_some_here","_law_k","_law_number"] ["_law_script"] (zw zgs):=⟨rfl,rfl,rfl,by decide+kernel,rfl,by decide+kernel,by decide+kernel⟩
abbrev zgj:Stmt:=zY 27
theorem sc_law_runs:FnScope ["_law_some_here","_law_runs_here","_law_machines"] ["_law_some_here"] (zw zgj):=⟨rfl,rfl,rfl,by decide+kernel,rfl,by decide+kernel,by decide+kernel⟩
abbrev zb7:Stmt:=zY 17
theorem sc_neighbours_as_one:FnScope ["rows","told","many","machines"] ["rows"] (zw zb7):=⟨rfl,rfl,rfl,by decide+kernel,rfl,by decide+kernel,by decide+kernel⟩
abbrev zfq:Stmt:=zY 18
theorem sc_kept_rows:FnScope ["rows","rest","told"] ["rows","rest"] (zw zfq):=⟨rfl,rfl,rfl,by decide+kernel,rfl,by decide+kernel,by decide+kernel⟩
abbrev zgr:Stmt:=zY 5
theorem zir:FnScope ["thing"] ["thing"] (zw zgr):=⟨rfl,rfl,rfl,by decide+kernel,rfl,by decide+kernel,by decide+kernel⟩
abbrev zcc:Stmt:=zY 6
theorem zdx:FnScope ["thing","low","high"] ["thing","low","high"] (zw zcc):=⟨rfl,rfl,rfl,by decide+kernel,rfl,by decide+kernel,by decide+kernel⟩
abbrev zed:Stmt:=zY 13
theorem zgc:FnScope ["thing"] ["thing"] (zw zed):=⟨rfl,rfl,rfl,by decide+kernel,rfl,by decide+kernel,by decide+kernel⟩
abbrev zco:Stmt:=zY 15
theorem zej:FnScope ["thing"] ["thing"] (zw zco):=⟨rfl,rfl,rfl,by decide+kernel,rfl,by decide+kernel,by decide+kernel⟩
abbrev zbb:Stmt:=zY 16
theorem zdo:FnScope ["thing"] ["thing"] (zw zbb):=⟨rfl,rfl,rfl,by decide+kernel,rfl,by decide+kernel,by decide+kernel⟩
abbrev zic:Stmt:=zY 14
theorem zkf:FnScope ["thing"] ["thing"] (zw zic):=⟨rfl,rfl,rfl,by decide+kernel,rfl,by decide+kernel,by decide+kernel⟩
abbrev zc5:Stmt:=zdf (zY 19) 0
theorem ze6:FnScope ["self","rows","rest"] ["self","rows","rest"] (zw zc5):=⟨rfl,rfl,rfl,by decide+kernel,rfl,by decide+kernel,by decide+kernel⟩
abbrev zef:Stmt:=zY 20
theorem sc_calendar_of:FnScope ["tell","turns","rest","rows","turn","machines"] ["tell","turns","rest"] (zw zef):=⟨rfl,rfl,rfl,by decide+kernel,rfl,by decide+kernel,by decide+kernel⟩
abbrev zev:Stmt:=zY 28
theorem zin:FnScope ["_law_some_here","_law_asked","_law_tell"] ["_law_some_here","_law_asked"] (zw zev):=⟨rfl,rfl,rfl,by decide+kernel,rfl,by decide+kernel,by decide+kernel⟩
abbrev zgt:Stmt:=zY 29
theorem zif:FnScope ["_law_some_here","_law_asked","_law_rest"] ["_law_some_here","_law_asked","_law_rest"] (zw zgt):=⟨rfl,rfl,rfl,by decide+kernel,rfl,by decide+kernel,by decide+kernel⟩
abbrev zfo:Stmt:=zY 23
theorem zh2:FnScope ["_law_found","_law_due"] ["_law_found","_law_due"] (zw zfo):=⟨rfl,rfl,rfl,by decide+kernel,rfl,by decide+kernel,by decide+kernel⟩
abbrev zdt:Stmt:=zY 7
theorem zf4:FnScope ["first","last","low","high"] ["first","last","low","high"] (zw zdt):=⟨rfl,rfl,rfl,by decide+kernel,rfl,by decide+kernel,by decide+kernel⟩
abbrev zc3:Stmt:=zdf (zY 19) 5
theorem sc_Calendar_over:FnScope ["self","first","last","total","start","many","machines"] ["self","first","last"] (zw zc3):=⟨rfl,rfl,rfl,by decide+kernel,rfl,by decide+kernel,by decide+kernel⟩
abbrev zfu:Stmt:=zY 24
theorem sc_law_pairs:FnScope ["_law_found","_law_due","_law_one","_law_other"] ["_law_found","_law_due"] (zw zfu):=⟨rfl,rfl,rfl,by decide+kernel,rfl,by decide+kernel,by decide+kernel⟩
abbrev zea:Stmt:=zdf (zY 19) 3
theorem sc_Calendar_at:FnScope ["self","turn","stop","many","machines"] ["self","turn"] (zw zea):=⟨rfl,rfl,rfl,by decide+kernel,rfl,by decide+kernel,by decide+kernel⟩
abbrev zdb:Stmt:=zdf (zY 19) 1
theorem zfb:FnScope ["self"] ["self"] (zw zdb):=⟨rfl,rfl,rfl,by decide+kernel,rfl,by decide+kernel,by decide+kernel⟩
abbrev zc8:Stmt:=zdf (zY 19) 2
theorem zfd:FnScope ["self"] ["self"] (zw zc8):=⟨rfl,rfl,rfl,by decide+kernel,rfl,by decide+kernel,by decide+kernel⟩
abbrev zgo:Stmt:=zY 30
theorem sc_law_like:FnScope ["_law_calendar","_law_runs_here","_law_rest","_law_some_here","_law_other","_law_turn"] ["_law_calendar","_law_runs_here","_law_rest","_law_some_here"] (zw zgo):=⟨rfl,rfl,rfl,by decide+kernel,rfl,by decide+kernel,by decide+kernel⟩
abbrev zsm:Stmt:=zY 31
theorem sc_law:FnScope ["_law_script","_law_some_here","_law_rest","_law_cell","_law_runs_here","_law_many","_law_asked","_law_bad","_law_calendar"] ["_law_script"] (zw zsm):=⟨rfl,rfl,rfl,by decide+kernel,rfl,by decide+kernel,by decide+kernel⟩
def yT:Stmt:=(yX zev).getD 0 (.Pass ⟨0,0,0,0⟩)
abbrev zi8:Str:=("_law_told" :Str)++(".<locals>." :Str)++("_law_tell" :Str)
abbrev zgm (mg:Str→Option Value) (a1 a2:Addr) (doc:Value) (c:Addr) (ctv:Value):Obj:=PySem.W.fnMade "_law_tell" zi8 (zcu yT) (yX yT) (zw yT) [("_law_some_here",a1),("_law_asked",a2)] doc ((mg "__name__").getD .none) c ctv
theorem zrc:CloScope ["_law_turn","_law_some_here","_law_asked"] ["_law_turn"] ["_law_some_here","_law_asked"] (zw yT):=⟨rfl,rfl,rfl,by decide+kernel,rfl,by decide+kernel,by decide+kernel,by decide+kernel,by decide+kernel⟩
theorem zi0 {cl:List (Str×Addr)} {doc pm cdv ctv:Value} (s:Shared) (us:List Value) (hl:us.length=["_law_turn"].length):BindsTo s (PySem.W.fnX "_law_tell" zi8 (zcu yT) (yX yT) (zw yT) cl .none .none doc pm none cdv ctv) ⟨us,[]⟩ ((["_law_turn"]:List Str).zip us):=match us,hl with
 | [_],_=> .of_eq rfl
structure Txt (K:PySem.W.Frag) (mg:Str→Option Value) where
 f_law_mixed:Addr
 fd_law_mixed:FuncData
 d_law_mixed:Dfn K mg "_law_mixed" zf6 ["_law_cell","_law_k"] f_law_mixed fd_law_mixed
 f_law_cell_at:Addr
 fd_law_cell_at:FuncData
 d_law_cell_at:Dfn K mg "_law_cell_at" zec ["_law_script","_law_k"] f_law_cell_at fd_law_cell_at
 f_law_some:Addr
 fd_law_some:FuncData
 d_law_some:Dfn K mg "_law_some" zgs ["_law_script"] f_law_some fd_law_some
 f_law_runs:Addr
 fd_law_runs:FuncData
 d_law_runs:Dfn K mg "_law_runs" zgj ["_law_some_here"] f_law_runs fd_law_runs
 f_neighbours_as_one:Addr
 fd_neighbours_as_one:FuncData
 d_neighbours_as_one:Dfn K mg "neighbours_as_one" zb7 ["rows"] f_neighbours_as_one fd_neighbours_as_one
 f_kept_rows:Addr
 fd_kept_rows:FuncData
 d_kept_rows:Dfn K mg "kept_rows" zfq ["rows","rest"] f_kept_rows fd_kept_rows
 f_is_whole:Addr
 fd_is_whole:FuncData
 d_is_whole:Dfn K mg "is_whole" zgr ["thing"] f_is_whole fd_is_whole
 f_is_whole_between:Addr
 fd_is_whole_between:FuncData
 d_is_whole_between:Dfn K mg "is_whole_between" zcc ["thing","low","high"] f_is_whole_between fd_is_whole_between
 f_is_machines:Addr
 fd_is_machines:FuncData
 d_is_machines:Dfn K mg "is_machines" zed ["thing"] f_is_machines fd_is_machines
 f_is_calendar_row:Addr
 fd_is_calendar_row:FuncData
 d_is_calendar_row:Dfn K mg "is_calendar_row" zco ["thing"] f_is_calendar_row fd_is_calendar_row
 f_are_calendar_rows:Addr
 fd_are_calendar_rows:FuncData
 d_are_calendar_rows:Dfn K mg "are_calendar_rows" zbb ["thing"] f_are_calendar_rows fd_are_calendar_rows
 f_is_rest:Addr
 fd_is_rest:FuncData
 d_is_rest:Dfn K mg "is_rest" zic ["thing"] f_is_rest fd_is_rest
 f_calendar_of:Addr
 fd_calendar_of:FuncData
 d_calendar_of:Dfn K mg "calendar_of" zef ["tell","turns","rest"] f_calendar_of fd_calendar_of
 f_law_told:Addr
 fd_law_told:FuncData
 d_law_told:Dfn K mg "_law_told" zev ["_law_some_here","_law_asked"] f_law_told fd_law_told
 f_law_made:Addr
 fd_law_made:FuncData
 d_law_made:Dfn K mg "_law_made" zgt ["_law_some_here","_law_asked","_law_rest"] f_law_made fd_law_made
 f_law_whole:Addr
 fd_law_whole:FuncData
 d_law_whole:Dfn K mg "_law_whole" zfo ["_law_found","_law_due"] f_law_whole fd_law_whole
 f_common_count:Addr
 fd_common_count:FuncData
 d_common_count:Dfn K mg "common_count" zdt ["first","last","low","high"] f_common_count fd_common_count
 f_law_pairs:Addr
 fd_law_pairs:FuncData
 d_law_pairs:Dfn K mg "_law_pairs" zfu ["_law_found","_law_due"] f_law_pairs fd_law_pairs
 f_law_like:Addr
 fd_law_like:FuncData
 d_law_like:Dfn K mg "_law_like" zgo ["_law_calendar","_law_runs_here","_law_rest","_law_some_here"] f_law_like fd_law_like
 f_law:Addr
 fd_law:FuncData
 d_law:Dfn K mg "law" zsm ["_law_script"] f_law fd_law
 C_Calendar:Addr
 cl_Calendar:Cls K C_Calendar
 g_Calendar:mg "Calendar" =some (.ref C_Calendar)
 f_Calendar_init:Addr
 fd_Calendar_init:FuncData
 d_Calendar_init:DfnM K "__init__" "Calendar.__init__" zc5 ["self","rows","rest"] f_Calendar_init fd_Calendar_init
 f_Calendar_over:Addr
 fd_Calendar_over:FuncData
 d_Calendar_over:DfnM K "over" "Calendar.over" zc3 ["self","first","last"] f_Calendar_over fd_Calendar_over
 m_Calendar_over:Meth K C_Calendar "over" f_Calendar_over
 f_Calendar_at:Addr
 fd_Calendar_at:FuncData
 d_Calendar_at:DfnM K "at" "Calendar.at" zea ["self","turn"] f_Calendar_at fd_Calendar_at
 m_Calendar_at:Meth K C_Calendar "at" f_Calendar_at
 f_Calendar_rows:Addr
 fd_Calendar_rows:FuncData
 d_Calendar_rows:DfnM K "rows" "Calendar.rows" zdb ["self"] f_Calendar_rows fd_Calendar_rows
 m_Calendar_rows:Meth K C_Calendar "rows" f_Calendar_rows
 f_Calendar_rest:Addr
 fd_Calendar_rest:FuncData
 d_Calendar_rest:DfnM K "rest" "Calendar.rest" zc8 ["self"] f_Calendar_rest fd_Calendar_rest
 m_Calendar_rest:Meth K C_Calendar "rest" f_Calendar_rest
 M_Calendar:Mk K C_Calendar f_Calendar_init
 na_Calendar_stretches:NoAttr K C_Calendar "stretches"
 na_Calendar_beyond:NoAttr K C_Calendar "beyond"
 C_NoCalendar:Addr
 g_NoCalendar:mg "NoCalendar" =some (.ref C_NoCalendar)
 x_NoCalendar:XCl K mg "NoCalendar" C_NoCalendar
 z_NoCalendar:ExK K C_NoCalendar
 e_NoCalendar_NoCalendar:PySem.W.exmOne K (.ref C_NoCalendar) (.ref C_NoCalendar)=some true
 k_NoCalendar_NoCalendar:PySem.W.kitOne K (.ref C_NoCalendar) (.ref C_NoCalendar)=some true
 n_all:mg "all" =none
 n_bool:mg "bool" =none
 n_int:mg "int" =none
 n_isinstance:mg "isinstance" =none
 n_len:mg "len" =none
 n_list:mg "list" =none
 n_max:mg "max" =none
 n_min:mg "min" =none
 n_range:mg "range" =none
 n_sum:mg "sum" =none
 n_tuple:mg "tuple" =none
 n_zip:mg "zip" =none
 t_MOST_ROWS:Tok
 c_MOST_ROWS:mg "MOST_ROWS" =some (.int 16 t_MOST_ROWS)
 t_MOST_TURNS_OF_ROW:Tok
 c_MOST_TURNS_OF_ROW:mg "MOST_TURNS_OF_ROW" =some (.int 1000000 t_MOST_TURNS_OF_ROW)
 t_MOST_MACHINES:Tok
 c_MOST_MACHINES:mg "MOST_MACHINES" =some (.int 16 t_MOST_MACHINES)
 t_MOST_TURNS_ASKED:Tok
 c_MOST_TURNS_ASKED:mg "MOST_TURNS_ASKED" =some (.int 200 t_MOST_TURNS_ASKED)
 tcd:Addr
 ttb:Addr
 q_code:fd_law_told.code= .ref tcd
def kx {K:PySem.W.Frag} {mg:Str→Option Value} (T:Txt K mg) (ev:Addr×Option (Addr×List V)):Kx:=⟨K,fun c=>([(("Calendar" :Str),T.C_Calendar),(("NoCalendar" :Str),T.C_NoCalendar)]:List (Str×Addr)).lookup c,ev.1,ev.2⟩
theorem zvb {K:PySem.W.Frag} {mg:Str→Option Value} (T:Txt K mg) {ev:Addr×Option (Addr×List V)}:MtL (kx T ev) mtb:=(MtL.cons rfl rfl T.e_NoCalendar_NoCalendar T.k_NoCalendar_NoCalendar T.z_NoCalendar MtL.nil)
section
variable {P:Program} {w:World} {K:PySem.W.Frag} {mg:Str→Option Value} {base:Heap} {ev:Addr×Option (Addr×List V)}
theorem zis (T:Txt K mg):FnOk P w K mg base (XT P w) 1 T.f_law_mixed T.fd_law_mixed ["_law_cell","_law_k"] (zk (kx T ev) 2 f_law_mixed):=yc T.d_law_mixed.F zib fun cdv A outer s H E hr=>by unfold zd1;exact (zA (zR (zD yK yG (za (zD yy yz (za (zD zfv zga (za (zD yK yG (zb (pv 0)) (za zm))) (za zm))) (za (zD zfv zga (za zm) (zb (pv 1)))))) (za zm))))
theorem zbg (T:Txt K mg):FnOk P w K mg base (XT P w) 1 T.f_law_cell_at T.fd_law_cell_at ["_law_script","_law_k"] (zk (kx T ev) 2 f_law_cell_at):=yc T.d_law_cell_at.F zgd fun cdv A outer s H E hr=>by unfold zbv;exact (zB (yp (yw zpw zs8 (yk _) (zb (pv 1)) (za (z7 yU (yP rfl) (by rfl) T.n_len PySem.boot_len (ze (zb (pv 0)) zh)))) (zA (zR (zE yg (yf rfl) (fun _ _=>rfl) (zb (pv 0)) (zb (pv 1))))) yq) (zA (zR zm)))
theorem zkj (T:Txt K mg):FnOk P w K mg base (XT P w) 2 T.f_law_some T.fd_law_some ["_law_script"] (zk (kx T ev) 1 f_law_some):=yc T.d_law_some.F sc_law_some fun cdv A outer s H E hr=>by unfold zeq zc2;exact (zB (ye (i:=1) sc_law_some.nd rfl (Or.inl rfl) (y8 zh)) (zB (ze3 PassesOwn.leaving rfl (zfh rfl T.n_range (ze (za (zD yK yG (za (zS za7 (zbg T) (hr.mono (by decide)) (by rfl) T.d_law_cell_at.g T.d_law_cell_at.F.kp T.d_law_cell_at.b zJ (ze (zb (pv 0)) (ze (za zm) zh)))) (za zm))) zh)) (yV (yR (i:=2) sc_law_some.nd rfl (Or.inl rfl))) (zB (ye (i:=3) sc_law_some.nd rfl (Or.inl rfl) (zS zid (zis T) (hr.mono (by decide)) (by rfl) T.d_law_mixed.g T.d_law_mixed.F.kp T.d_law_mixed.b zJ (ze (za (zS za7 (zbg T) (hr.mono (by decide)) (by rfl) T.d_law_cell_at.g T.d_law_cell_at.F.kp T.d_law_cell_at.b zJ (ze (zb (pv 0)) (ze (za (zD yy yz (za zm) (zb (pv 2)))) zh)))) (ze (zb (pv 2)) zh)))) (zA (ye (i:=1) sc_law_some.nd rfl (Or.inl rfl) (zD yy yz (zb (pv 1)) (za (zD zfv zga (za (y8 (ze (za (zD yK yG (zb (pv 3)) (za zm))) zh))) (za (zD yy yz (za zm) (za (zD yK yG (za (zD zd3 zdz (zb (pv 3)) (za zm))) (za (zE yg (yf rfl) (fun _ _=>rfl) (za (y8 (ze (za zm) (ze (za zm) zh)))) (za (zD yK yG (za (zD zd3 zdz (za (zS za7 (zbg T) (hr.mono (by decide)) (by rfl) T.d_law_cell_at.g T.d_law_cell_at.F.kp T.d_law_cell_at.b zJ (ze (zb (pv 0)) (ze (za zm) zh)))) (za zm))) (za zm)))))))))))))))) (zA (zf8 (pv 1)))))
theorem zkd (T:Txt K mg):FnOk P w K mg base (XT P w) 1 T.f_law_runs T.fd_law_runs ["_law_some_here"] (zk (kx T ev) 1 f_law_runs):=yc T.d_law_runs.F sc_law_runs fun cdv A outer s H E hr=>by unfold zex zda;exact (zB (ye (i:=1) sc_law_runs.nd rfl (Or.inl rfl) (r_gl (y8 zh))) (zB (ze3 PassesOwn.leaving rfl (zfi rfl (zb (pv 0))) (yV (yR (i:=2) sc_law_runs.nd rfl (Or.inl rfl))) (zA (yp (PW.pt (zjw (yw zgu (zgn (yJ hr)) (yk _) (zb (pv 1)) (za (y8 zh))) (zg9 (yw zeb (zei (yJ hr)) (yk _) (za (zE yg (yf rfl) (fun _ _=>rfl) (za (zE yg (yf rfl) (fun _ _=>rfl) (zb (pv 1)) (za (zh3 (za zm))))) (za zm))) (zb (pv 2)))))) (zB (ye (i:=2) sc_law_runs.nd rfl (Or.inl rfl) (zE yg (yf rfl) (fun _ _=>rfl) (za (zE yg (yf rfl) (fun _ _=>rfl) (zb (pv 1)) (za (zh3 (za zm))))) (za zm))) (zA (zl2 zc1 rfl PySem.F.slot_list_append PySem.F.type_list_append zcn (zb (pv 1)) (ze (za (zma (ze (za (zD yy yz (za (zE yg (yf rfl) (fun _ _=>rfl) (za (zve zps rfl PySem.F.slot_list_pop PySem.F.type_list_pop zp4 (zb (pv 1)))) (za zm))) (za zm))) (ze (zb (pv 2)) zh)))) zh)))) (zA (zl2 zc1 rfl PySem.F.slot_list_append PySem.F.type_list_append zcn (zb (pv 1)) (ze (za (zma (ze (za zm) (ze (zb (pv 2)) zh)))) zh)))))) (zA (zf8 (pv 1)))))
theorem zb5 (T:Txt K mg):FnOk P w K mg base (XT P w) 1 T.f_neighbours_as_one T.fd_neighbours_as_one ["rows"] (zk (kx T ev) 1 f_neighbours_as_one):=yc T.d_neighbours_as_one.F sc_neighbours_as_one fun cdv A outer s H E hr=>by unfold zbd za2;exact (zB (ye (i:=1) sc_neighbours_as_one.nd rfl (Or.inl rfl) (y8 zh)) (zB (ze3 PassesOwn.leaving rfl (zfi rfl (zb (pv 0))) (zj8 (n:=2) (zjr rfl (zch (yV (yR (i:=2) sc_neighbours_as_one.nd rfl (Or.inl rfl))) (zch (yV (yR (i:=3) sc_neighbours_as_one.nd rfl (Or.inl rfl))) zhd zcf) zcf)) (zce (zce zg2))) (zA (yp (PW.pt (zjw (zpt rfl (zb (pv 1))) (zg9 (yw zeb (zei (yJ hr)) (yk _) (za (zE yg (yf rfl) (fun _ _=>rfl) (za (zE yg (yf rfl) (fun _ _=>rfl) (zb (pv 1)) (za (zh3 (za zm))))) (za zm))) (zb (pv 3)))))) (zA (znr (zma (ze (za (zD yy yz (za (zE yg (yf rfl) (fun _ _=>rfl) (za (zE yg (yf rfl) (fun _ _=>rfl) (zb (pv 1)) (za (zh3 (za zm))))) (za zm))) (zb (pv 2)))) (ze (zb (pv 3)) zh))) (zb (pv 1)) (za (zh3 (za zm))) fun a b c=>zto a (zsi b c znq))) (zA (zl2 zc1 rfl PySem.F.slot_list_append PySem.F.type_list_append zcn (zb (pv 1)) (ze (za (zma (ze (zb (pv 2)) (ze (zb (pv 3)) zh)))) zh)))))) (zA (zf8 (pv 1)))))
theorem zi5 (T:Txt K mg):FnOk P w K mg base (XT P w) 2 T.f_kept_rows T.fd_kept_rows ["rows","rest"] (zk (kx T ev) 2 f_kept_rows):=yc T.d_kept_rows.F sc_kept_rows fun cdv A outer s H E hr=>by unfold zca;exact (zB (ye (i:=2) sc_kept_rows.nd rfl (Or.inl rfl) (zS zbu (zb5 T) (hr.mono (by decide)) (by rfl) T.d_neighbours_as_one.g T.d_neighbours_as_one.F.kp T.d_neighbours_as_one.b zJ (ze (zb (pv 0)) zh))) (zB (yp (PW.pt (zjw (zpt rfl (zb (pv 2))) (zg9 (yw zeb (zei (yJ hr)) (yk _) (za (zE yg (yf rfl) (fun _ _=>rfl) (za (zE yg (yf rfl) (fun _ _=>rfl) (zb (pv 2)) (za (zh3 (za zm))))) (za zm))) (zb (pv 1)))))) (zA (zs7 zps rfl PySem.F.slot_list_pop PySem.F.type_list_pop zp4 (zb (pv 2)))) yq) (zA (zf8 (pv 2)))))
theorem zkc (T:Txt K mg):FnOk P w K mg base (XT P w) 1 T.f_is_whole T.fd_is_whole ["thing"] (zk (kx T ev) 1 f_is_whole):=yc T.d_is_whole.F zir fun cdv A outer s H E hr=>by unfold zew;exact (zA (zR (zk1 (z7 zdd (zcg rfl) (by rfl) T.n_isinstance PyProof.Rows.boot_isinstance (ze (zb (pv 0)) (ze (za (yx (zc9 (v:= .ty "int") (by rfl) T.n_int PyProof.Rows.boot_int rfl) fun _ _ _=> .ty _)) zh))) (zlu (zui (z7 zdd (zcg rfl) (by rfl) T.n_isinstance PyProof.Rows.boot_isinstance (ze (zb (pv 0)) (ze (za (yx (zc9 (v:= .ty "bool") (by rfl) T.n_bool PyProof.Rows.boot_bool rfl) fun _ _ _=> .ty _)) zh))))))))
theorem zax (T:Txt K mg):FnOk P w K mg base (XT P w) 2 T.f_is_whole_between T.fd_is_whole_between ["thing","low","high"] (zk (kx T ev) 3 f_is_whole_between):=yc T.d_is_whole_between.F zdx fun cdv A outer s H E hr=>by unfold zak;exact (zA (zR (zk1 (zS zik (zkc T) (hr.mono (by decide)) (by rfl) T.d_is_whole.g T.d_is_whole.F.kp T.d_is_whole.b zJ (ze (zb (pv 0)) zh)) (zlu (zrg zpi zpi zst zst (zb (pv 1)) (zb (pv 0)) (zb (pv 2)))))))
theorem zel (T:Txt K mg):FnOk P w K mg base (XT P w) 3 T.f_is_machines T.fd_is_machines ["thing"] (zk (kx T ev) 1 f_is_machines):=yc T.d_is_machines.F zgc fun cdv A outer s H E hr=>by unfold zct;exact (zA (zR (zS zau (zax T) (hr.mono (by decide)) (by rfl) T.d_is_whole_between.g T.d_is_whole_between.F.kp T.d_is_whole_between.b zJ (ze (zb (pv 0)) (ze (za zm) (ze (za (yx (zfp (v:= .int 16) (by rfl) T.c_MOST_MACHINES ⟨_,rfl⟩) fun _ _ _=> .int _)) zh))))))
theorem zet (T:Txt K mg):FnOk P w K mg base (XT P w) 4 T.f_is_calendar_row T.fd_is_calendar_row ["thing"] (zk (kx T ev) 1 f_is_calendar_row):=yc T.d_is_calendar_row.F zej fun cdv A outer s H E hr=>by unfold zbp;exact (zB (yp (PW.pt (zgy (yF (yH (z7 zdd (zcg rfl) (by rfl) T.n_isinstance PyProof.Rows.boot_isinstance (ze (zb (pv 0)) (ze (za (yx (zc9 (v:= .ty "tuple") (by rfl) T.n_tuple PyProof.Rows.boot_tuple rfl) fun _ _ _=> .ty _)) zh))))) (zee (yw zgu (zgn (yJ hr)) (yk _) (za (z7 yU (yP rfl) (by rfl) T.n_len PySem.boot_len (ze (zb (pv 0)) zh))) (za zm))))) (zA (zR z5)) yq) (zA (zR (zk1 (zS zau (zax T) (hr.mono (by decide)) (by rfl) T.d_is_whole_between.g T.d_is_whole_between.F.kp T.d_is_whole_between.b zJ (ze (za (zE yg (yf rfl) (fun _ _=>rfl) (zb (pv 0)) (za zm))) (ze (za zm) (ze (za (yx (zfp (v:= .int 1000000) (by rfl) T.c_MOST_TURNS_OF_ROW ⟨_,rfl⟩) fun _ _ _=> .int _)) zh)))) (zlu (zS zdv (zel T) (hr.mono (by decide)) (by rfl) T.d_is_machines.g T.d_is_machines.F.kp T.d_is_machines.b zJ (ze (za (zE yg (yf rfl) (fun _ _=>rfl) (zb (pv 0)) (za zm))) zh)))))))
theorem zd4 (T:Txt K mg):FnOk P w K mg base (XT P w) 5 T.f_are_calendar_rows T.fd_are_calendar_rows ["thing"] (zk (kx T ev) 1 f_are_calendar_rows):=yc T.d_are_calendar_rows.F zdo fun cdv A outer s H E hr=>by unfold zap zar;exact (zB (yp (PW.pt (zgy (yF (yH (z7 zdd (zcg rfl) (by rfl) T.n_isinstance PyProof.Rows.boot_isinstance (ze (zb (pv 0)) (ze (za (yx (zc9 (v:= .ty "list") (by rfl) T.n_list PyProof.Rows.boot_list rfl) fun _ _ _=> .ty _)) zh))))) (zee (yw zpp zsu (yk _) (za (z7 yU (yP rfl) (by rfl) T.n_len PySem.boot_len (ze (zb (pv 0)) zh))) (za (yx (zfp (v:= .int 16) (by rfl) T.c_MOST_ROWS ⟨_,rfl⟩) fun _ _ _=> .int _)))))) (zA (zR z5)) yq) (zA (zR (z7 zrn (zm2 rfl rfl) (by rfl) T.n_all PyProof.Rows.boot_all (ze (za (zs1 (loc:=["row"]) (free:=[]) (fr:=[]) rfl (zhl (sc:=zw zbb) (N:=(["thing"]:List Str)) rfl rfl (by decide+kernel)) (zfi rfl (zb (pv 0))) (fun _ _ _ _ _=>(yV (pgc 0 (["row"]:List Str) (by decide+kernel) rfl rfl (Or.inl rfl) rfl))) (fun _ _ _ _ _=>zru) (fun _ _ _ _ _=>(zS zeg (zet T) (hr.mono (by decide)) (by rfl) T.d_is_calendar_row.g T.d_is_calendar_row.F.kp T.d_is_calendar_row.b zu3 (ze (zb (pv 0)) zh))))) zh)))))
theorem zlc (T:Txt K mg):FnOk P w K mg base (XT P w) 3 T.f_is_rest T.fd_is_rest ["thing"] (zk (kx T ev) 1 f_is_rest):=yc T.d_is_rest.F zkf fun cdv A outer s H E hr=>by unfold zfz;exact (zA (zR (zS zau (zax T) (hr.mono (by decide)) (by rfl) T.d_is_whole_between.g T.d_is_whole_between.F.kp T.d_is_whole_between.b zJ (ze (zb (pv 0)) (ze (za zm) (ze (za (yx (zfp (v:= .int 16) (by rfl) T.c_MOST_MACHINES ⟨_,rfl⟩) fun _ _ _=> .int _)) zh))))))
theorem zc4 (T:Txt K mg):FnOk P w K mg base (XT P w) 6 T.f_Calendar_init T.fd_Calendar_init ["self","rows","rest"] (zk (kx T ev) 3 f_Calendar_init):=yc T.d_Calendar_init.F ze6 fun cdv A outer s H E hr=>by unfold za1;exact (zB (yp (PW.pt (zgy (yF (yH (zS zdq (zd4 T) (hr.mono (by decide)) (by rfl) T.d_are_calendar_rows.g T.d_are_calendar_rows.F.kp T.d_are_calendar_rows.b zJ (ze (zb (pv 1)) zh)))) (zee (yF (yH (zS zkm (zlc T) (hr.mono (by decide)) (by rfl) T.d_is_rest.g T.d_is_rest.F.kp T.d_is_rest.b zJ (ze (zb (pv 2)) zh))))))) (zA (zg4 rfl T.x_NoCalendar rfl (by rfl) zll (ze (za zlf) zh))) yq) (zB (zpo (Flds.cons rfl T.cl_Calendar T.na_Calendar_stretches Flds.nil) (zb (pv 0)) (zS zhs (zi5 T) (hr.mono (by decide)) (by rfl) T.d_kept_rows.g T.d_kept_rows.F.kp T.d_kept_rows.b zJ (ze (zb (pv 1)) (ze (zb (pv 2)) zh)))) (zA (zpo (Flds.cons rfl T.cl_Calendar T.na_Calendar_beyond Flds.nil) (zb (pv 0)) (r_v (pv 2))))))
theorem zkg (T:Txt K mg) {M:Mdf} {doc ctv:Value} (ho:M.o=zgm mg M.a1 M.a2 doc M.c ctv) (hM:MdOk (zgm mg) M) (hI:M.In zi8 base):FnOk P w K mg base (XT P w) 1 M.f (PySem.W.fnX "_law_tell" zi8 (zcu yT) (yX yT) (zw yT) [("_law_some_here",M.a1),("_law_asked",M.a2)] .none .none doc ((mg "__name__").getD .none) none (.ref M.c) ctv) ["_law_turn"] (fun vs H Q E=>zk (kx T (T.ttb,some (M.f,[M.w1,M.w2]))) 3 zbw (vs++[M.w1,M.w2]) H Q E):=fn3C (k:=0) (ps:=["_law_turn"]) (fs:=["_law_some_here","_law_asked"]) (N:=["_law_turn","_law_some_here","_law_asked"]) (b:=zdk) (hI.f.trans (congrArg some ho)) hI.c zrc rfl (zvj hM hI (by decide+kernel)) fun A outer s H E hr=>by unfold zdk;exact (zB (zl2 zc1 rfl PySem.F.slot_list_append PySem.F.type_list_append zcn (zb (pv 2)) (ze (zb (pv 0)) zh)) (zA (zR (zE yg (yf rfl) (fun _ _=>rfl) (zb (pv 1)) (zb (pv 0))))))
theorem zhf (T:Txt K mg) {M:Mdf} {doc ctv:Value} (ho:M.o=zgm mg M.a1 M.a2 doc M.c ctv) (hM:MdOk (zgm mg) M) (hI:M.In zi8 base):FnOk P w K mg base (XT P w) 8 T.f_calendar_of T.fd_calendar_of ["tell","turns","rest"] (zk (kx T (T.ttb,some (M.f,[M.w1,M.w2]))) 3 f_calendar_of):=yc T.d_calendar_of.F sc_calendar_of fun cdv A outer s H E hr=>by unfold zcr zbf;exact (zB (yp (yF (yH (zS zau (zax T) (hr.mono (by decide)) (by rfl) T.d_is_whole_between.g T.d_is_whole_between.F.kp T.d_is_whole_between.b zJ (ze (zb (pv 1)) (ze (za zm) (ze (za (yx (zfp (v:= .int 200) (by rfl) T.c_MOST_TURNS_ASKED ⟨_,rfl⟩) fun _ _ _=> .int _)) zh)))))) (zA (zg4 rfl T.x_NoCalendar rfl (by rfl) zll (ze (za zlf) zh))) yq) (zB (ye (i:=3) sc_calendar_of.nd rfl (Or.inl rfl) (y8 zh)) (zB (ze3 PassesOwn.leaving rfl (zfh rfl T.n_range (ze (zb (pv 1)) zh)) (yV (yR (i:=4) sc_calendar_of.nd rfl (Or.inl rfl))) (zB (ye (i:=5) sc_calendar_of.nd rfl (Or.inl rfl) (zrf (i:=0) zih rfl rfl (zkg T ho hM hI) (hr.mono (by decide)) rfl (Or.inl rfl) (hI.f.trans (congrArg some ho)) rfl zi0 zJ (ze (zb (pv 4)) zh))) (qh 5 (zB (yp (yF (yH (zS zdv (zel T) (hr.mono (by decide)) (by rfl) T.d_is_machines.g T.d_is_machines.F.kp T.d_is_machines.b zJ (ze (zb (pv 5)) zh)))) (zA (zg4 rfl T.x_NoCalendar rfl (by rfl) zll (ze (za zlf) zh))) yq) (qh 5 (zA (zl2 zc1 rfl PySem.F.slot_list_append PySem.F.type_list_append zcn (zb (pv 3)) (ze (za (zma (ze (za zm) (ze (zb (pv 5)) zh)))) zh)))))))) (qh 3 (zA (zR (zvp (zun rfl zcx T.M_Calendar (zc4 T) (hr.mono (by decide)) (by rfl) T.g_Calendar T.d_Calendar_init.b zJ (ze (za (zS zbu (zb5 T) (hr.mono (by decide)) (by rfl) T.d_neighbours_as_one.g T.d_neighbours_as_one.F.kp T.d_neighbours_as_one.b zJ (ze (zb (pv 3)) zh))) (ze (zb (pv 2)) zh))))))))))
theorem zk0 (T:Txt K mg) (hC:PySem.W.CodeHd base T.tcd T.ttb) (hB:base.BuiltinsAt mg T.ttb) (hm:mainGlobals≠T.ttb):FnOk P w K mg base CX0 1 T.f_law_told T.fd_law_told ["_law_some_here","_law_asked"] (spT T.ttb zi8 (zgm mg)):=zn5 (k:=0) (params:=zcu yT) (body:=yX yT) (gsc:=zw yT) T.d_law_told.F zin rfl T.q_code rfl rfl rfl (fun _=>rfl) (fun _ _ _=>rfl) hC hB hm rfl rfl (fun _=>rfl) (by decide+kernel) (by decide+kernel) (by decide+kernel)
theorem zgp (T:Txt K mg) (hC:PySem.W.CodeHd base T.tcd T.ttb) (hB:base.BuiltinsAt mg T.ttb) (hm:mainGlobals≠T.ttb):FnOk P w K mg base (XT P w) 9 T.f_law_made T.fd_law_made ["_law_some_here","_law_asked","_law_rest"] (zk (kx T (T.ttb,none)) 3 f_law_made):=yc T.d_law_made.F zif fun cdv A outer s H E hr=>by unfold zdm;exact (zA (zqb (mk:=zgm mg) (q:=zi8) zge (fun M hM base' md hI=>let ⟨doc,ctv,ho⟩:=hM.o;zhf T ho hM hI) (hr.mono (by decide)) (by rfl) T.d_calendar_of.g T.d_calendar_of.F.kp T.d_calendar_of.b (zk0 T hC hB hm) (hr.mono (by decide)) (by rfl) T.d_law_told.g T.d_law_told.F.kp T.d_law_told.b (fun _ _=>(ze (zb (pv 0)) (ze (zb (pv 1)) zh))) (fun _ _=>(ze (za (z7 yU (yP rfl) (by rfl) T.n_len PySem.boot_len (ze (zb (pv 0)) zh))) (ze (zb (pv 2)) zh))) rfl rfl rfl (zr8 rfl ((zvb T).ok rfl) (by rfl) T.g_NoCalendar (fun _=>(zA (zR zk3))) zt9)))
theorem zbl (T:Txt K mg):FnOk P w K mg base (XT P w) 1 T.f_law_whole T.fd_law_whole ["_law_found","_law_due"] (zk (kx T ev) 2 f_law_whole):=yc T.d_law_whole.F zh2 fun cdv A outer s H E hr=>by unfold zd0;exact (zA (zR (zk1 (z7 zdd (zcg rfl) (by rfl) T.n_isinstance PyProof.Rows.boot_isinstance (ze (zb (pv 0)) (ze (za (yx (zc9 (v:= .ty "int") (by rfl) T.n_int PyProof.Rows.boot_int rfl) fun _ _ _=> .ty _)) zh))) (zk1 (zui (z7 zdd (zcg rfl) (by rfl) T.n_isinstance PyProof.Rows.boot_isinstance (ze (zb (pv 0)) (ze (za (yx (zc9 (v:= .ty "bool") (by rfl) T.n_bool PyProof.Rows.boot_bool rfl) fun _ _ _=> .ty _)) zh)))) (zlu (zk8 zeb (zei (yJ hr)) (yk _) (zb (pv 0)) (zb (pv 1))))))))
theorem zdu (T:Txt K mg):FnOk P w K mg base (XT P w) 1 T.f_common_count T.fd_common_count ["first","last","low","high"] (zk (kx T ev) 4 f_common_count):=yc T.d_common_count.F zf4 fun cdv A outer s H E hr=>by unfold zcl;exact (zA (zR (z7 zne (zh7 rfl) (by rfl) T.n_max PyProof.Rows.boot_max (ze (za zm) (ze (za (zD yy yz (za (zD ziq zmo (za (z7 zq3 (zmq rfl) (by rfl) T.n_min PyProof.Rows.boot_min (ze (zb (pv 1)) (ze (zb (pv 3)) zh)))) (za (z7 zne (zh7 rfl) (by rfl) T.n_max PyProof.Rows.boot_max (ze (zb (pv 0)) (ze (zb (pv 2)) zh)))))) (za zm))) zh)))))
theorem zfs (T:Txt K mg):FnOk P w K mg base (XT P w) 2 T.f_Calendar_over T.fd_Calendar_over ["self","first","last"] (zk (kx T ev) 3 f_Calendar_over):=yc T.d_Calendar_over.F sc_Calendar_over fun cdv A outer s H E hr=>by unfold zb8 zbk;exact (zB (ye (i:=3) sc_Calendar_over.nd rfl (Or.inl rfl) zm) (zB (ye (i:=4) sc_Calendar_over.nd rfl (Or.inl rfl) zm) (zB (ze3 PassesOwn.leaving rfl (zfi rfl (za (zkv (Flds.cons rfl T.cl_Calendar T.na_Calendar_stretches Flds.nil) (zb (pv 0))))) (zj8 (n:=2) (zjr rfl (zch (yV (yR (i:=5) sc_Calendar_over.nd rfl (Or.inl rfl))) (zch (yV (yR (i:=6) sc_Calendar_over.nd rfl (Or.inl rfl))) zhd zcf) zcf)) (zce (zce zg2))) (zB (zme (i:=3) zfk (fun h=>zlt sc_Calendar_over.nd rfl (Or.inl rfl) h zm4) (za (zD zfv zga (zb (pv 6)) (za (zS zdh (zdu T) (hr.mono (by decide)) (by rfl) T.d_common_count.g T.d_common_count.F.kp T.d_common_count.b zJ (ze (zb (pv 4)) (ze (za (zD ziq zmo (za (zD yy yz (zb (pv 4)) (zb (pv 5)))) (za zm))) (ze (zb (pv 1)) (ze (zb (pv 2)) zh))))))))) (zA (zme (i:=4) zfk (fun h=>zlt sc_Calendar_over.nd rfl (Or.inl rfl) h zm4) (zb (pv 5)))))) (zA (zR (zD yy yz (zb (pv 3)) (za (zD zfv zga (za (zkv (Flds.cons rfl T.cl_Calendar T.na_Calendar_beyond Flds.nil) (zb (pv 0)))) (za (zS zdh (zdu T) (hr.mono (by decide)) (by rfl) T.d_common_count.g T.d_common_count.F.kp T.d_common_count.b zJ (ze (zb (pv 4)) (ze (zb (pv 2)) (ze (zb (pv 1)) (ze (zb (pv 2)) zh))))))))))))))
theorem zi3 (T:Txt K mg):FnOk P w K mg base (XT P w) 2 T.f_law_pairs T.fd_law_pairs ["_law_found","_law_due"] (zk (kx T ev) 2 f_law_pairs):=yc T.d_law_pairs.F sc_law_pairs fun cdv A outer s H E hr=>by unfold zdy zcv;exact (zB (yp (PW.pt (zgy (yF (yH (z7 zdd (zcg rfl) (by rfl) T.n_isinstance PyProof.Rows.boot_isinstance (ze (zb (pv 0)) (ze (za (yx (zc9 (v:= .ty "list") (by rfl) T.n_list PyProof.Rows.boot_list rfl) fun _ _ _=> .ty _)) zh))))) (zee (yw zgu (zgn (yJ hr)) (yk _) (za (z7 yU (yP rfl) (by rfl) T.n_len PySem.boot_len (ze (zb (pv 0)) zh))) (za (z7 yU (yP rfl) (by rfl) T.n_len PySem.boot_len (ze (zb (pv 1)) zh))))))) (zA (zR z5)) yq) (zB (ze3 PassesOwn.leaving rfl (zs5 rfl rfl T.n_zip (ze (zb (pv 0)) (ze (zb (pv 1)) zh))) (zj8 (n:=2) (zjr rfl (zch (yV (yR (i:=2) sc_law_pairs.nd rfl (Or.inl rfl))) (zch (yV (yR (i:=3) sc_law_pairs.nd rfl (Or.inl rfl))) zhd zcf) zcf)) (zce (zce zg2))) (zB (yp (PW.pt (zgy (yF (yH (z7 zdd (zcg rfl) (by rfl) T.n_isinstance PyProof.Rows.boot_isinstance (ze (zb (pv 2)) (ze (za (yx (zc9 (v:= .ty "tuple") (by rfl) T.n_tuple PyProof.Rows.boot_tuple rfl) fun _ _ _=> .ty _)) zh))))) (zee (yw zgu (zgn (yJ hr)) (yk _) (za (z7 yU (yP rfl) (by rfl) T.n_len PySem.boot_len (ze (zb (pv 2)) zh))) (za zm))))) (zA (zR z5)) yq) (zA (yp (PW.pt (zgy (yF (yH (zS zbe (zbl T) (hr.mono (by decide)) (by rfl) T.d_law_whole.g T.d_law_whole.F.kp T.d_law_whole.b zJ (ze (za (zE yg (yf rfl) (fun _ _=>rfl) (zb (pv 2)) (za zm))) (ze (za (zE yg (yf rfl) (fun _ _=>rfl) (zb (pv 3)) (za zm))) zh))))) (zee (yF (yH (zS zbe (zbl T) (hr.mono (by decide)) (by rfl) T.d_law_whole.g T.d_law_whole.F.kp T.d_law_whole.b zJ (ze (za (zE yg (yf rfl) (fun _ _=>rfl) (zb (pv 2)) (za zm))) (ze (za (zE yg (yf rfl) (fun _ _=>rfl) (zb (pv 3)) (za zm))) zh)))))))) (zA (zR z5)) yq)))) (zA (zR z5))))
theorem zd7 (T:Txt K mg):FnOk P w K mg base (XT P w) 1 T.f_Calendar_at T.fd_Calendar_at ["self","turn"] (zk (kx T ev) 2 f_Calendar_at):=yc T.d_Calendar_at.F sc_Calendar_at fun cdv A outer s H E hr=>by unfold zcs zb9;exact (zB (ye (i:=2) sc_Calendar_at.nd rfl (Or.inl rfl) zm) (zB (ze3 PassesOwn.leaving rfl (zfi rfl (za (zkv (Flds.cons rfl T.cl_Calendar T.na_Calendar_stretches Flds.nil) (zb (pv 0))))) (zj8 (n:=2) (zjr rfl (zch (yV (yR (i:=3) sc_Calendar_at.nd rfl (Or.inl rfl))) (zch (yV (yR (i:=4) sc_Calendar_at.nd rfl (Or.inl rfl))) zhd zcf) zcf)) (zce (zce zg2))) (zB (zme (i:=2) zfk (fun h=>zlt sc_Calendar_at.nd rfl (Or.inl rfl) h zm4) (zb (pv 3))) (zA (yp (yw zpw zs8 (yk _) (zb (pv 1)) (zb (pv 2))) (zA (zf8 (pv 4))) yq)))) (zA (zR (zkv (Flds.cons rfl T.cl_Calendar T.na_Calendar_beyond Flds.nil) (zb (pv 0)))))))
theorem zdc (T:Txt K mg):FnOk P w K mg base (XT P w) 1 T.f_Calendar_rows T.fd_Calendar_rows ["self"] (zk (kx T ev) 1 f_Calendar_rows):=yc T.d_Calendar_rows.F zfb fun cdv A outer s H E hr=>by unfold zbh;exact (zA (zR (r_ty zom (zkb rfl) (by rfl) T.n_list PyProof.Rows.boot_list (ze (za (zkv (Flds.cons rfl T.cl_Calendar T.na_Calendar_stretches Flds.nil) (zb (pv 0)))) zh))))
theorem zf1 (T:Txt K mg):FnOk P w K mg base (XT P w) 1 T.f_Calendar_rest T.fd_Calendar_rest ["self"] (zk (kx T ev) 1 f_Calendar_rest):=yc T.d_Calendar_rest.F zfd fun cdv A outer s H E hr=>by unfold zb1;exact (zA (zR (zkv (Flds.cons rfl T.cl_Calendar T.na_Calendar_beyond Flds.nil) (zb (pv 0)))))
theorem zk2 (T:Txt K mg):FnOk P w K mg base (XT P w) 8 T.f_law_like T.fd_law_like ["_law_calendar","_law_runs_here","_law_rest","_law_some_here"] (zk (kx T ev) 4 f_law_like):=yc T.d_law_like.F sc_law_like fun cdv A outer s H E hr=>by unfold zes zdg;exact (zB (ye (i:=4) sc_law_like.nd rfl (Or.inl rfl) (zun rfl zcx T.M_Calendar (zc4 T) (hr.mono (by decide)) (by rfl) T.g_Calendar T.d_Calendar_init.b zJ (ze (zb (pv 1)) (ze (zb (pv 2)) zh)))) (zB (yp (PW.pt (zgy (yF (yH (zS zhj (zi3 T) (hr.mono (by decide)) (by rfl) T.d_law_pairs.g T.d_law_pairs.F.kp T.d_law_pairs.b zJ (ze (za (ziy rfl zcz (zb (pv 0)) T.cl_Calendar T.m_Calendar_rows (zdc T) (hr.mono (by decide)) T.d_Calendar_rows.b zJ)) (ze (za (ziy rfl zcz (zb (pv 4)) T.cl_Calendar T.m_Calendar_rows (zdc T) (hr.mono (by decide)) T.d_Calendar_rows.b zJ)) zh))))) (zee (yF (yH (zS zbe (zbl T) (hr.mono (by decide)) (by rfl) T.d_law_whole.g T.d_law_whole.F.kp T.d_law_whole.b zJ (ze (za (ziy rfl ze9 (zb (pv 0)) T.cl_Calendar T.m_Calendar_rest (zf1 T) (hr.mono (by decide)) T.d_Calendar_rest.b zJ)) (ze (zb (pv 2)) zh)))))))) (zA (zR z5)) yq) (zB (ze3 PassesOwn.leaving rfl (zfh rfl T.n_range (ze (za (z7 yU (yP rfl) (by rfl) T.n_len PySem.boot_len (ze (zb (pv 3)) zh))) zh)) (yV (yR (i:=5) sc_law_like.nd rfl (Or.inl rfl))) (zA (yp (yF (yH (zS zbe (zbl T) (hr.mono (by decide)) (by rfl) T.d_law_whole.g T.d_law_whole.F.kp T.d_law_whole.b zJ (ze (za (zlv rfl zdw (zb (pv 0)) T.cl_Calendar T.m_Calendar_at (zd7 T) (hr.mono (by decide)) T.d_Calendar_at.b zJ (ze (zb (pv 5)) zh))) (ze (za (zE yg (yf rfl) (fun _ _=>rfl) (zb (pv 3)) (zb (pv 5)))) zh))))) (zA (zR z5)) yq))) (zB (yp (yF (yH (zS zbe (zbl T) (hr.mono (by decide)) (by rfl) T.d_law_whole.g T.d_law_whole.F.kp T.d_law_whole.b zJ (ze (za (zlv rfl zdw (zb (pv 0)) T.cl_Calendar T.m_Calendar_at (zd7 T) (hr.mono (by decide)) T.d_Calendar_at.b zJ (ze (za (z7 yU (yP rfl) (by rfl) T.n_len PySem.boot_len (ze (zb (pv 3)) zh))) zh))) (ze (zb (pv 2)) zh))))) (zA (zR z5)) yq) (zA (zR (zS zbe (zbl T) (hr.mono (by decide)) (by rfl) T.d_law_whole.g T.d_law_whole.F.kp T.d_law_whole.b zJ (ze (za (zlv rfl zfc (zb (pv 0)) T.cl_Calendar T.m_Calendar_over (zfs T) (hr.mono (by decide)) T.d_Calendar_over.b zJ (ze (za zm) (ze (za (z7 yU (yP rfl) (by rfl) T.n_len PySem.boot_len (ze (zb (pv 3)) zh))) zh)))) (ze (za (zD yy yz (za (z7 zqn (zls rfl rfl) (by rfl) T.n_sum PyProof.Rows.boot_sum (ze (zb (pv 3)) zh))) (zb (pv 2)))) zh)))))))))
theorem G_law (T:Txt K mg) (hC:PySem.W.CodeHd base T.tcd T.ttb) (hB:base.BuiltinsAt mg T.ttb) (hm:mainGlobals≠T.ttb):FnOk P w K mg base (XT P w) 10 T.f_law T.fd_law ["_law_script"] (zk (kx T (T.ttb,none)) 1 f_law):=yc T.d_law.F sc_law fun cdv A outer s H E hr=>by unfold zq0;exact (zB (ye (i:=1) sc_law.nd rfl (Or.inl rfl) (zS ziz (zkj T) (hr.mono (by decide)) (by rfl) T.d_law_some.g T.d_law_some.F.kp T.d_law_some.b zJ (ze (zb (pv 0)) zh))) (zB (ye (i:=2) sc_law.nd rfl (Or.inl rfl) (zD yy yz (za zm) (za (zD yK yG (za (zS za7 (zbg T) (hr.mono (by decide)) (by rfl) T.d_law_cell_at.g T.d_law_cell_at.F.kp T.d_law_cell_at.b zJ (ze (zb (pv 0)) (ze (za zm) zh)))) (za zm))))) (zB (ye (i:=3) sc_law.nd rfl (Or.inl rfl) (zS za7 (zbg T) (hr.mono (by decide)) (by rfl) T.d_law_cell_at.g T.d_law_cell_at.F.kp T.d_law_cell_at.b zJ (ze (zb (pv 0)) (ze (za zm) zh)))) (qh 1 (zB (ye (i:=4) sc_law.nd rfl (Or.inl rfl) (zS ziw (zkd T) (hr.mono (by decide)) (by rfl) T.d_law_runs.g T.d_law_runs.F.kp T.d_law_runs.b zJ (ze (zb (pv 1)) zh))) (zB (ye (i:=5) sc_law.nd rfl (Or.inl rfl) (z7 yU (yP rfl) (by rfl) T.n_len PySem.boot_len (ze (zb (pv 1)) zh))) (zB (ye (i:=6) sc_law.nd rfl (Or.inl rfl) (r_gl (y8 zh))) (zB (yp (PW.pt (zjw (yw zeb (zei (yJ hr)) (yk _) (za (zD yK yG (zb (pv 3)) (za zm))) (za zm)) (zg9 (yw zgu (zgn (yJ hr)) (yk _) (zb (pv 1)) (za (y8 zh)))))) (zB (ye (i:=5) sc_law.nd rfl (Or.inl rfl) (zD yK yG (za (zD zd3 zdz (zb (pv 3)) (za zm))) (za (z7 yU (yP rfl) (by rfl) T.n_len PySem.boot_len (ze (zb (pv 1)) zh))))) (zB (ye (i:=7) sc_law.nd rfl (Or.inl rfl) (zE yg (yf rfl) (fun _ _=>rfl) (za (y8 (ze (za zm) (ze (za (zh3 (za zm))) (ze (za (zD yy yz (za zm) (za (zD yK yG (za (zD zd3 zdz (zb (pv 3)) (za zm))) (za (zD zlw zpn (za zm) (za zm))))))) (ze (za z5) (ze (za zk3) (ze (za zlf) zh)))))))) (za (zD yK yG (za (zD zd3 zdz (zb (pv 3)) (za zm))) (za zm))))) (qh 2 (zB (ye (i:=8) sc_law.nd rfl (Or.inl rfl) (zS zf5 (zgp T hC hB hm) (hr.mono (by decide)) (by rfl) T.d_law_made.g T.d_law_made.F.kp T.d_law_made.b zJ (ze (za (zD yy yz (za (zD yy yz (za (r_sl rfl (zb (pv 1)) zsx (zt7 (zb (pv 5))))) (za (y8 (ze (zb (pv 7)) zh))))) (za (r_sl rfl (zb (pv 1)) (zt7 (za (zD yy yz (zb (pv 5)) (za zm)))) zsx)))) (ze (zb (pv 6)) (ze (zb (pv 2)) zh))))) (zA (zR (zk1 (zk8 zii zm9 (yk _) (zb (pv 8)) (za zk3)) (zlu (zk8 zeb (zei (yJ hr)) (yk _) (zb (pv 6)) (za (zg5 rfl (by rfl) T.n_list (by rfl) T.n_range (ze (za (zD yy yz (zb (pv 5)) (za zm))) zh)))))))))))) yq) (zB (yp (yw zeb (zei (yJ hr)) (yk _) (za (zD yK yG (zb (pv 3)) (za zm))) (za zm)) (zA (ye (i:=2) sc_law.nd rfl (Or.inl rfl) (zE yg (yf rfl) (fun _ _=>rfl) (za (y8 (ze (za zm) (ze (za zm) (ze (za (zD ziq zmo (za (zh3 (za zm))) (za (zD yK yG (za (zD zd3 zdz (zb (pv 3)) (za zm))) (za (zD zlw zpn (za zm) (za zm))))))) (ze (za z5) (ze (za zk3) (ze (za zlf) zh)))))))) (za (zD yK yG (za (zD zd3 zdz (zb (pv 3)) (za zm))) (za zm)))))) yq) (qh 2 (qh 1 (zB (ye (i:=8) sc_law.nd rfl (Or.inl rfl) (zS zf5 (zgp T hC hB hm) (hr.mono (by decide)) (by rfl) T.d_law_made.g T.d_law_made.F.kp T.d_law_made.b zJ (ze (zb (pv 1)) (ze (zb (pv 6)) (ze (zb (pv 2)) zh))))) (zB (yp (yw zgu (zgn (yJ hr)) (yk _) (zb (pv 6)) (za (zg5 rfl (by rfl) T.n_list (by rfl) T.n_range (ze (zb (pv 5)) zh)))) (zA (zR z5)) yq) (zB (yp (PW.pt (zgy (yw zpp zsu (yk _) (za (z7 yU (yP rfl) (by rfl) T.n_len PySem.boot_len (ze (zb (pv 4)) zh))) (za zm)) (zee (yw zeb (zei (yJ hr)) (yk _) (za (zD yK yG (zb (pv 3)) (za zm))) (za zm))))) (zA (zR (zk8 zii zm9 (yk _) (zb (pv 8)) (za zk3)))) yq) (qh 1 (qh 2 (qh 4 (qh 8 (zB (yp (PW.pt (zgy (yw zii zm9 (yk _) (zb (pv 8)) (za zk3)) (zee (yF (yH (zS ziu (zk2 T) (hr.mono (by decide)) (by rfl) T.d_law_like.g T.d_law_like.F.kp T.d_law_like.b zJ (ze (zb (pv 8)) (ze (zb (pv 4)) (ze (zb (pv 2)) (ze (zb (pv 1)) zh)))))))))) (zA (zR z5)) yq) (zA (zR (zk8 zeb (zei (yJ hr)) (yk _) (zb (pv 6)) (za (zg5 rfl (by rfl) T.n_list (by rfl) T.n_range (ze (zb (pv 5)) zh)))))))))))))))))))))))))
end
end My
def PySem.W.Fast.tw14598715356260435866:Nat:=0
def PySem.W.Fast.tw7238046018651277534:Nat:=0
def PySem.W.Fast.tw6534874000650894987:Nat:=0
def PySem.W.Fast.tw10544295344006241723:Nat:=0
def PySem.W.Fast.tw3182386257043530798:Nat:=0
def PySem.W.Fast.tw12329155263669439519:Nat:=0
def PySem.W.Fast.tw3677632882827384062:Nat:=0
def PySem.W.Fast.tw13388153557339397715:Nat:=0
def PySem.W.Fast.tw16205993139258394665:Nat:=0
def PySem.W.Fast.tw12186927737360925045:Nat:=0
def PySem.W.Fast.tw13256641116850012859:Nat:=0
def PySem.W.Fast.tw4069818745696331118:Nat:=0
def PySem.W.Fast.tw12309487429465621764:Nat:=0
def PySem.W.Fast.tw10594365738534580157:Nat:=0
def PySem.W.Fast.tw1319192029097868252:Nat:=0
def PySem.W.Fast.tw10178460254095656201:Nat:=0
def PySem.W.Fast.tw17846797487192150033:Nat:=0
def PySem.W.Fast.tw12196925527506493495:Nat:=0
def PySem.W.Fast.tw8565733149115213228:Nat:=0
def PySem.W.Fast.tw6667695353286145696:Nat:=0
def PySem.W.Fast.tw11488531227469871684:Nat:=0
def PySem.W.Fast.tw5822829993140332335:Nat:=0
def PySem.W.Fast.tw1992449075930466090:Nat:=0
def PySem.W.Fast.tw5262731503136342451:Nat:=0
def PySem.W.Fast.tw5173889594236819067:Nat:=0
def PySem.W.Fast.tw10531621347620151403:Nat:=0
def PySem.W.Fast.tw12411216588197505872:Nat:=0
def PySem.W.Fast.tw17495155262278756735:Nat:=0
def PySem.W.Fast.tw8988036822726370258:Nat:=0
def PySem.W.Fast.tw3510150404263062150:Nat:=0
def PySem.W.Fast.tw17754248650196429969:Nat:=0
def PySem.W.Fast.tw6141336636588853562:Nat:=0
namespace My
open PySem PySem.W L2 L3
def ask:L4.Ask where
 law:=31
 at_:=[2,3,15,17,18,20,21,22,29,30,31,32,35,42,43,44,47,49,50,52,53,54,56,57,59,60,61,63,64,66,67,68,70,71,73,74,75,77,78,80,81,82,84,85,87,88,89,92,93,94,96,97,99,100,101,103,104,106,107,115,117,118,120,121,122,124,125,127,128,129,131,132,134,135,136,138,139,141,142,143,145,146,148,149,150,152,153,155,156,157,159,160,162,163,164,166,167,169,170,171,173,174,176,177,178,180,181,183,184,185,187,188,190,191,192,193,194,195,196,199,201,202,204,205,206,208,209,211,212,213,215,216,218,219,220,222,223,225,226,227,229,230,232,233,234,236,237,239,240,241,243,244,246,247,248,250,251,253,254,255,257,258,260,261,262,264,265,267,268,269,271,272,274,275]
 defs:=[("_law_mixed",25),("_law_cell_at",22),("_law_some",26),("_law_runs",27),("neighbours_as_one",17),("kept_rows",18),("is_whole",5),("is_whole_between",6),("is_machines",13),("is_calendar_row",15),("are_calendar_rows",16),("is_rest",14),("calendar_of",20),("_law_told",28),("_law_made",29),("_law_whole",23),("common_count",7),("_law_pairs",24),("_law_like",30),("law",31)]
 cls:=[("Calendar",19,[("__init__","Calendar.__init__",0),("over","Calendar.over",5),("at","Calendar.at",3),("rows","Calendar.rows",1),("rest","Calendar.rest",2)],["stretches","beyond"])]
 bare:=["all","bool","int","isinstance","len","list","max","min","range","sum","tuple","zip"]
 con:=[("MOST_ROWS",.int 16),("MOST_TURNS_OF_ROW",.int 1000000),("MOST_MACHINES",.int 16),("MOST_TURNS_ASKED",.int 200)]
 exc:=[("NoCalendar",true)]
 tab:=[("NoCalendar","NoCalendar",true)]
 exi:=[]
end My
def My.y0:PySem.Str:="_law_told"
lay_quick L4.claimT L4.goalT
open PySem PySem.W in
theorem My.one1: ∀(w:World) (os:OsState),PySem.W.Fast.tw5714632368794931027 My.ask My.y0 20000 PySem.Challenge.pw_dueyard_k05_a_calendar_asked w os=PySem.W.Fast.tw6850149277720968864 My.ask PySem.Challenge.pw_dueyard_k05_a_calendar_asked:=by
 intro w os
 kernel_rfl
open PySem PySem.W in
theorem My.one: ∀(w:World) (os:OsState),L4.claimT My.ask My.y0 20000 PySem.Challenge.pw_dueyard_k05_a_calendar_asked w os=L4.goalT My.ask PySem.Challenge.pw_dueyard_k05_a_calendar_asked:=by
 rw [PySem.W.Fast.te5714632368794931027,PySem.W.Fast.te6850149277720968864]
 exact My.one1
namespace L3
open PySem L2
theorem ev:type_of% (zc (zc (zc (zc (zc (zc @L3.fun3.eq_1 (zc @L3.start3.eq_1 @L3.sSeq.eq_1)) (zc (zc @L3.sSet.eq_1 @L3.sRet.eq_1) (zc @L3.sRetS.eq_1 @L3.sRetN.eq_1))) (zc (zc (zc @L3.sIf.eq_1 @L3.sExp.eq_1) (zc @L3.sFz.eq_1 @L3.sAug.eq_1)) (zc (zc @L3.sAsg.eq_1 @L3.sSkip.eq_1) (zc @L3.sNever.eq_1 @L3.gN.eq_1)))) (zc (zc (zc @L3.eV.eq_1 (zc @L3.eC.eq_1 @L3.pV.eq_1)) (zc (zc @L3.pE.eq_1 @L3.eOp.eq_1) (zc @L3.eNeg.eq_1 @L3.eNot.eq_1))) (zc (zc (zc @L3.eAnd.eq_1 @L3.eOr.eq_1) (zc @L3.eIf.eq_1 @L3.eChain.eq_1)) (zc (zc @L3.oEq_int @L3.oNe_int) (zc @L3.nx_ite @L3.rt_ite))))) (zc (zc (zc (zc @L3.ok_ite (zc @L3.cons_ite @L3.some_ite)) (zc (zc @L3.v_ite @L3.int_ite) (zc @L3.bl_ite @ite_self.{1}))) (zc (zc (zc @decide_eq_true_eq @and_true) (zc @true_and @and_self)) (zc (zc @L3.eTup.eq_1 @L3.eLst.eq_1) (zc @L3.aCons.eq_1 @L3.aNil.eq_1)))) (zc (zc (zc (zc @L3.eB.eq_1 @L3.isa.eq_1) (zc @L3.eCall.eq_1 @L3.tE.eq_1)) (zc (zc @L3.tP.eq_1 @L3.tTru.eq_1) (zc @L3.tAnd3.eq_1 @L3.tOr3.eq_1))) (zc (zc (zc @L3.tNot3.eq_1 @L3.mtO.eq_1) (zc @L3.at0 @L3.at1)) (zc (zc @L3.at2 @L3.at3) (zc @L3.at4 @List.map_cons.{0,0})))))) (zc (zc (zc (zc (zc @List.map_nil.{0,0} (zc @List.length_cons.{0} @List.length_nil.{0})) (zc (zc @List.cons_append.{0} @List.nil_append.{0}) (zc @List.append_nil.{0} @List.getElem?_cons_zero.{0}))) (zc (zc (zc @List.getElem?_cons_succ.{0} @List.getElem?_nil.{0}) (zc @List.set_cons_zero.{0} @List.set_cons_succ.{0})) (zc (zc @Option.map_some.{0,0} @Option.map_none.{0,0}) (zc @Option.bind_some.{0,0} @Nat.zero_add)))) (zc (zc (zc @ite_true.{1} (zc @ite_false.{1} @if_true.{1})) (zc (zc @if_false.{1} @Bool.not_true) (zc @Bool.not_false @decide_true))) (zc (zc (zc @decide_false @Bool.true_and) (zc @Bool.false_and @Bool.or_true)) (zc (zc @Bool.or_false @Bool.true_or) (zc @Bool.false_or @beq_self_eq_true.{0}))))) (zc (zc (zc (zc @or_true (zc @true_or @or_false)) (zc (zc @false_or @L3.oAdd_int) (zc @L3.oAddI_int @L3.oSub_int))) (zc (zc (zc @L3.oMul_int @L3.oDiv_int) (zc @L3.oMod_int @L3.oShr_int)) (zc (zc @L3.oPow_int @L3.oAndI_int) (zc @L3.oLt_int @L3.oLe_int)))) (zc (zc (zc (zc @L3.oGt_int @L3.oGe_int) (zc @L3.oIx_tup @L3.oIx_lst)) (zc (zc @L3.oIx_scr @L3.sMt_ap) (zc @L3.mAppend_ok @L3.sz0))) (zc (zc (zc @L3.sz1 @L3.sz2) (zc @L3.sz3 @L3.sz4)) (zc (zc @L3.sz5 @L3.gb.eq_1) (zc @Int.cast_ofNat_Int @Bool.false_eq_true))))))):=(zc (zc (zc (zc (zc (zc @L3.fun3.eq_1 (zc @L3.start3.eq_1 @L3.sSeq.eq_1)) (zc (zc @L3.sSet.eq_1 @L3.sRet.eq_1) (zc @L3.sRetS.eq_1 @L3.sRetN.eq_1))) (zc (zc (zc @L3.sIf.eq_1 @L3.sExp.eq_1) (zc @L3.sFz.eq_1 @L3.sAug.eq_1)) (zc (zc @L3.sAsg.eq_1 @L3.sSkip.eq_1) (zc @L3.sNever.eq_1 @L3.gN.eq_1)))) (zc (zc (zc @L3.eV.eq_1 (zc @L3.eC.eq_1 @L3.pV.eq_1)) (zc (zc @L3.pE.eq_1 @L3.eOp.eq_1) (zc @L3.eNeg.eq_1 @L3.eNot.eq_1))) (zc (zc (zc @L3.eAnd.eq_1 @L3.eOr.eq_1) (zc @L3.eIf.eq_1 @L3.eChain.eq_1)) (zc (zc @L3.oEq_int @L3.oNe_int) (zc @L3.nx_ite @L3.rt_ite))))) (zc (zc (zc (zc @L3.ok_ite (zc @L3.cons_ite @L3.some_ite)) (zc (zc @L3.v_ite @L3.int_ite) (zc @L3.bl_ite @ite_self.{1}))) (zc (zc (zc @decide_eq_true_eq @and_true) (zc @true_and @and_self)) (zc (zc @L3.eTup.eq_1 @L3.eLst.eq_1) (zc @L3.aCons.eq_1 @L3.aNil.eq_1)))) (zc (zc (zc (zc @L3.eB.eq_1 @L3.isa.eq_1) (zc @L3.eCall.eq_1 @L3.tE.eq_1)) (zc (zc @L3.tP.eq_1 @L3.tTru.eq_1) (zc @L3.tAnd3.eq_1 @L3.tOr3.eq_1))) (zc (zc (zc @L3.tNot3.eq_1 @L3.mtO.eq_1) (zc @L3.at0 @L3.at1)) (zc (zc @L3.at2 @L3.at3) (zc @L3.at4 @List.map_cons.{0,0})))))) (zc (zc (zc (zc (zc @List.map_nil.{0,0} (zc @List.length_cons.{0} @List.length_nil.{0})) (zc (zc @List.cons_append.{0} @List.nil_append.{0}) (zc @List.append_nil.{0} @List.getElem?_cons_zero.{0}))) (zc (zc (zc @List.getElem?_cons_succ.{0} @List.getElem?_nil.{0}) (zc @List.set_cons_zero.{0} @List.set_cons_succ.{0})) (zc (zc @Option.map_some.{0,0} @Option.map_none.{0,0}) (zc @Option.bind_some.{0,0} @Nat.zero_add)))) (zc (zc (zc @ite_true.{1} (zc @ite_false.{1} @if_true.{1})) (zc (zc @if_false.{1} @Bool.not_true) (zc @Bool.not_false @decide_true))) (zc (zc (zc @decide_false @Bool.true_and) (zc @Bool.false_and @Bool.or_true)) (zc (zc @Bool.or_false @Bool.true_or) (zc @Bool.false_or @beq_self_eq_true.{0}))))) (zc (zc (zc (zc @or_true (zc @true_or @or_false)) (zc (zc @false_or @L3.oAdd_int) (zc @L3.oAddI_int @L3.oSub_int))) (zc (zc (zc @L3.oMul_int @L3.oDiv_int) (zc @L3.oMod_int @L3.oShr_int)) (zc (zc @L3.oPow_int @L3.oAndI_int) (zc @L3.oLt_int @L3.oLe_int)))) (zc (zc (zc (zc @L3.oGt_int @L3.oGe_int) (zc @L3.oIx_tup @L3.oIx_lst)) (zc (zc @L3.oIx_scr @L3.sMt_ap) (zc @L3.mAppend_ok @L3.sz0))) (zc (zc (zc @L3.sz1 @L3.sz2) (zc @L3.sz3 @L3.sz4)) (zc (zc @L3.sz5 @L3.gb.eq_1) (zc @Int.cast_ofNat_Int @Bool.false_eq_true)))))))
end L3
local macro_rules | `(tactic| simp_arith [$xs,*] $[$l]?)=> `(tactic| simp only [L3.fun3,L3.start3,L3.O3.res,L3.sSeq,L3.sSet,L3.sRet,L3.sRetS,L3.sRetN,L3.sIf,L3.sExp,L3.sFz,L3.sAug,L3.sAsg,L3.sSkip,L3.sNever,L3.gN,L3.gT,L3.gL,L3.gsCons,L3.gsNil,L3.eV,L3.eC,L3.pV,L3.pE,L3.eOp,L3.eNeg,L3.eNot,L3.eAnd,L3.eOr,L3.eIf,L3.eChain,L3.oEq_int,L3.oNe_int,L3.nx_ite,L3.rt_ite,L3.ok_ite,L3.cons_ite,L3.some_ite,L3.v_ite,L3.int_ite,L3.bl_ite,ite_self,decide_eq_true_eq,and_true,true_and,and_self,L3.oIsN,L3.eTup,L3.eLst,L3.aCons,L3.aNil,L3.vals3,L3.eB,L3.bLen,L3.bMax,L3.bMin,L3.bMin3,L3.bInt,L3.bList,L3.bIsT,L3.ty3,L3.isa,L3.eCall,L3.opt,L3.Res.bind,L3.Res.bindS,L3.Vl.fz,L3.C3.fz,L3.tE,L3.tP,L3.tru3,L3.tTru,L3.tAnd3,L3.tOr3,L3.tNot3,L3.rdl,L3.rdm,L3.mtO,L3.wr3,L3.at0,L3.at1,L3.at2,L3.at3,L3.at4,List.map_cons,List.map_nil,List.length_cons,List.length_nil,List.replicate,List.cons_append,List.nil_append,List.append_nil,List.getElem?_cons_zero,List.getElem?_cons_succ,List.getElem?_nil,List.set_cons_zero,List.set_cons_succ,Option.map_some,Option.map_none,Option.bind_some,Nat.reduceSub,Nat.reduceAdd,Nat.reduceLT,Nat.reduceEqDiff,Nat.reduceLeDiff,Nat.zero_add,reduceIte,ite_true,ite_false,if_true,if_false,Bool.not_true,Bool.not_false,decide_true,decide_false,Bool.true_and,Bool.false_and,Bool.or_true,Bool.or_false,Bool.true_or,Bool.false_or,beq_self_eq_true,String.reduceEq,String.reduceBEq,or_true,true_or,or_false,false_or,reduceCtorEq,Int.reduceLT,Int.reduceLE,Int.reduceNeg,L3.oAdd_int,L3.oAddI_int,L3.oSub_int,L3.oMul_int,L3.oDiv_int,L3.oMod_int,L3.oShr_int,L3.oPow_int,L3.oAndI_int,L3.oLt_int,L3.oLe_int,L3.oGt_int,L3.oGe_int,L3.oIx_tup,L3.oIx_lst,L3.oIx_scr,L3.sMt_ap,L3.mAppend_ok,L3.sz0,L3.sz1,L3.sz2,L3.sz3,L3.sz4,L3.sz5,L3.gb,Int.cast_ofNat_Int,Int.reduceEq,Bool.false_eq_true,$xs,*] $[$l]?)
namespace L3
open PySem L2
theorem zkp {α:Type} {n:Nat} {fr:List Nat} {p:P3} {g:G3} {e:E3} {s:S3} {h:H3} {x:V3} {ok:H3→Prop} {enc:α→V3} {l:List α} (I:S3→Prop) (f:α→V3) (ep:p s h= .ok (.x x) h)
  (hw:yr h x=some (l.map enc,ok)) (hl:l.length≤1000000) (h0:I (cst3 n fr s)) (step: ∀a s,a∈l→I s→∃s1 r,g (enc a) s=some s1∧I s1∧e s1 h= .ok r h∧r.fz=some (f a)):
  zm7 n fr (iL p) g tTru e s h= .ok (.m (.lst (l.map f))) h:=by
 have:=zov (ok:=ok) (g:=g) (e:=e) (h:=h) I enc f (zen hw).1 (l:=l) (by have:=yn;omega) step h0
 unfold zm7 iL
 simp only [ep,Res.bind,hw,this]
theorem zn1 {s:S3} {h:H3} {ns:List Int} (hs:zhx 0 ns=true):bSum s h [.x (.lst (ns.map .int))]=some (.v (.int ns.sum)):=by
 unfold bSum;simp only [rdl,zpe,if_pos hs]
theorem zmm {s:S3} {h:H3} {q:List Bool→Bool} {bs:List Bool}:bAll q s h [.x (.lst (bs.map .bl))]=some (.v (.bl (q bs))):=by
 unfold bAll;simp only [rdl,zp8,Option.map_some]
theorem zs6 {α:Type} {it:I3} {g:G3} {b:D3} {s:S3} {h:H3} {its:List V3} {ok:H3→Prop} {enc:α→V3} {l:List α} (ei:it s h= .ok ⟨its,l.map enc,ok⟩ h) (hok:ok h)
  (I:Nat→S3→Prop) (h0:I 0 s) (step: ∀(i:Nat) a s,l[i]? =some a→I i s→∃s2,gb g b (enc a) s h= .nx s2 h∧I (i+1) s2): ∃s',zx it g b s h= .nx s' h∧I l.length s':=by
 have hf:zx it g b s h=zt ok g b (l.map enc) s h:=by
  unfold zx;simp only [ei,Res.bindS]
 rw [hf]
 have:=zij (ok:=ok) (g:=g) (b:=b) (h:=h) I (xs:=l.map enc) (s:=s) hok h0 fun i x s hx hI=>by
  rw [List.getElem?_map] at hx
  obtain ⟨a,ha,rfl⟩:=Option.map_eq_some_iff.1 hx
  obtain ⟨s2,e,hI2⟩:=step i a s ha hI
  unfold gb at e
  cases q:g (enc a) s with
  | none=>rw [q] at e;cases e
  | some s1=>rw [q] at e;exact ⟨s1,s2,rfl,e,hI2⟩
 rwa [List.length_map] at this
theorem it_R {Q:Res Vl→Prop} {α:Type} {it:I3} {g:G3} {b r:D3} {s:S3} {h:H3} {its:List V3} {ok:H3→Prop} {enc:α→V3} {l:List α} (ei:it s h= .ok ⟨its,l.map enc,ok⟩ h) (hok:ok h)
  (I:Nat→S3→Prop) (h0:I 0 s) (step: ∀(i:Nat) a s,l[i]? =some a→I i s→∃s2,gb g b (enc a) s h= .nx s2 h∧I (i+1) s2) (k: ∀s',I l.length s'→Q ((r s' h).res)):Q ((sSeq (zx it g b) r s h).res):=by
 obtain ⟨s',e,hI⟩:=zs6 ei hok I h0 step
 rw [ze0 e];exact k s' hI
abbrev zd (p:Int×Int):V3:= .tup [.int p.1,.int p.2]
theorem zry {a:A3} {s:S3} {h:H3} {j:Int} (ea:a s h= .ok [.x (.int j)] h) (hj: -(2 ^ 62)≤j∧j < 2 ^ 62):yS a s h= .ok ⟨[],(List.range j.toNat).map fun k=> .int ((k:Nat):Int),fun _=>True⟩ h:=by
 unfold yS;simp only [ea,Res.bind,if_pos hj,Int.zero_add]
def Is (h:H3) (r:Vl) (R:Res Vl):Prop:=R= .ok r h
def Yes (R:Res Vl):Prop:=∃h',R= .ok (.v (.bl true)) h'
theorem zut {s:S3} {h:H3} {i:Nat} {j:Int}:zL s h (.s i) (.x (.int j))=match s[i]? with
  | some (some (.m (.lst xs)))=>(atI xs j).map .v
  | _=>none:=by
 unfold zL yB oIxT oIxL oIxS
 simp only [rdl]
 generalize s[i]? =o
 match o with
 | none=>rfl
 | some none=>rfl
 | some (some (.v _))=>rfl
 | some (some (.m (.lst xs)))=>simp only [];cases atI xs j <;> rfl
 | some (some (.m (.dK _)))=>rfl
 | some (some (.m (.dT _)))=>rfl
 | some (some (.m (.ins _ _)))=>rfl
 | some (some (.m .dead))=>rfl
 | some (some (.m .tab))=>rfl
theorem zpu {s:S3} {h:H3} {i:Nat} {l:List V3} {x:V3} (e:s[i]? =some (some (.m (.lst (l++[x]))))):zL s h (.s i) (.x (.int (-1)))=some (.v x):=by
 rw [zut,e];simp only [atm1,Option.map_some]
theorem zf3 {α β:Type} {l:List α} {f:α→β}:(l.map f).isEmpty=l.isEmpty:=by cases l <;> rfl
theorem zfn {α:Type} {l:List α} {n:Nat} {x y:α} (h:l.length=n):(l++[x]).set n y=l++[y]:=by
 subst h;rw [List.set_append_right _ _ (Nat.le_refl _)];simp
theorem zb3 {α:Type} {l:List α} {i:Nat} {a:α} (h:l[i]? =some a):l.drop i=a::l.drop (i+1):=by
 obtain ⟨hi,rfl⟩:=List.getElem?_eq_some_iff.1 h
 exact List.drop_eq_getElem_cons hi
theorem znc {α:Type} {l:List α} {i:Nat} {a:α} (h:l[i]? =some a):l.take (i+1)=l.take i++[a]:=by rw [List.take_add_one,h];rfl
theorem zlq {α:Type} (xs:List α) (k:Nat):z9 xs (some (k:Int)) none=xs.drop k:=by
 unfold z9 HT.sIx
 have h1: ¬((k:Int) < 0):=by omega
 simp only [if_neg h1,Int.toNat_natCast]
 by_cases hk:k≤xs.length
 ·rw [Nat.min_eq_left hk,List.take_of_length_le (by simp)]
 ·rw [Nat.min_eq_right (by omega),List.drop_length,List.drop_eq_nil_of_le (by omega)];simp
theorem zq4 {α:Type} (xs:List α) (k:Nat):z9 xs none (some (k:Int))=xs.take k:=by
 unfold z9 HT.sIx
 have h1: ¬((k:Int) < 0):=by omega
 simp only [if_neg h1,Int.toNat_natCast,List.drop_zero,Nat.sub_zero]
 rw [List.take_eq_take_iff];omega
theorem zjk {f:V3→V3→Option Bool}: ∀{xs:List V3},(∀x∈xs,f x x=some true)→yt f xs xs=some true
 | [],_=>rfl
 | x::r,h=>by simp only [yt,h x List.mem_cons_self,zjk (xs:=r) fun y hy=>h y (List.mem_cons_of_mem _ hy),Bool.and_self]
theorem zjl {s:S3} {h:H3} {f g:Rf} {xs:List V3} (hf:rdm s h f=some xs) (hg:rdm s h g=some xs) (hx: ∀x∈xs,yb h 8 x x=some true):yY s h f g=some true:=by
 unfold yY;rw [hf,hg];simp only [if_true,zjk hx]
theorem zo0 {s:S3} {h:H3} {f g:Rf} {xs:List V3} (hf:rdm s h f=some xs) (hg:rdm s h g=some xs) (hx: ∀x∈xs,yb h 8 x x=some true):ym s h f g=some (.v (.bl false)):=by
 unfold ym;rw [zjl hf hg hx];rfl
theorem zn8 {s:S3} {h:H3} {f g:Rf} {xs:List V3} (hf:rdm s h f=some xs) (hg:rdm s h g=some xs) (hx: ∀x∈xs,yb h 8 x x=some true):yh s h f g=some (.v (.bl true)):=by
 unfold yh;rw [zjl hf hg hx];rfl
theorem zrb {s:S3} {h:H3} {f:Rf} {xs:List V3} (hf:rdm s h f=some xs):yY s h f (.x (.lst []))=some xs.isEmpty:=by
 unfold yY;rw [hf]
 simp only [rdm,rdl]
 cases xs <;> rfl
theorem zg7 {s:S3} {h:H3} {f:Rf} {xs:List V3} (hf:rdm s h f=some xs):ym s h f (.x (.lst []))=some (.v (.bl !xs.isEmpty)):=by unfold ym;rw [zrb hf];rfl
theorem zpa {s:S3} {h:H3} {xs:List V3}:rdm s h (.x (.lst xs))=some xs:=rfl
theorem zmj {s:S3} {h:H3} {n:Nat} {xs:List V3} (e:h[n]? =some (.lst xs)):rdm s h (.x (.loc n))=some xs:=by
 show rdl s h (.x (.loc n))=_
 simp only [rdl,e]
def IsL (h:H3) (x:V3) (xs:List V3):Prop:=x= .lst xs∨∃n,x= .loc n∧h[n]? =some (.lst xs)
theorem IsL.walk {h:H3} {x:V3} {xs:List V3} (l:IsL h x xs): ∃ok,yr h x=some (xs,ok):=by
 rcases l with rfl | ⟨n,rfl,e⟩
 ·exact ⟨_,rfl⟩
 ·exact ⟨_,by simp only [yr,e];rfl⟩
theorem zuz {Q:Res Vl→Prop} {ok:H3→Prop} {g:G3} {b r:D3} {α:Type} {enc:α→V3} {l:List α} (I:Nat→S3→H3→Prop) (hok: ∀i s h,I i s h→ok h)
  (step: ∀(i:Nat) a s h,l[i]? =some a→I i s h→(∃s2 h2,(gb g b (enc a) s h= .nx s2 h2∨gb g b (enc a) s h= .ct s2 h2)∧I (i+1) s2 h2)∨(∃v h2,gb g b (enc a) s h= .rt v h2∧Q (.ok v h2))∨∃s2 h2,gb g b (enc a) s h= .bk s2 h2∧Q ((r s2 h2).res))
  (k: ∀s' h',I l.length s' h'→Q ((r s' h').res)): ∀(n i:Nat) (s:S3) (h:H3),l.length - i=n→i≤l.length→I i s h→Q ((match zt ok g b ((l.drop i).map enc) s h with | .nx s h=>r s h | o=>o).res):=by
 intro n
 induction n with
 | zero=>
  intro i s h hn hi hI
  have e:i=l.length:=by omega
  subst e
  rw [List.drop_length,List.map_nil]
  unfold zt
  rw [if_pos (hok _ _ _ hI)]
  exact k s h hI
 | succ n ih=>
  intro i s h hn hi hI
  have hil:i < l.length:=by omega
  rw [zb3 (z4 hil),List.map_cons]
  unfold zt
  rw [if_pos (hok _ _ _ hI)]
  have st:=step i l[i] s h (z4 hil) hI
  unfold gb at st
  cases q:g (enc l[i]) s with
  | none=>simp only [q] at st;rcases st with ⟨_,_,z | z,_⟩ | ⟨_,_,z,_⟩ | ⟨_,_,z,_⟩ <;> cases z
  | some s1=>
   simp only [q] at st ⊢
   rcases st with ⟨s2,h2,z | z,hI2⟩ | ⟨v,h2,z,hq⟩ | ⟨s2,h2,z,hq⟩
   ·rw [z];exact ih (i+1) s2 h2 (by omega) hil hI2
   ·rw [z];exact ih (i+1) s2 h2 (by omega) hil hI2
   ·rw [z];exact hq
   ·rw [z];exact hq
theorem it_E {Q:Res Vl→Prop} {α:Type} {it:I3} {g:G3} {b r:D3} {s:S3} {h:H3} {its:List V3} {ok:H3→Prop} {enc:α→V3} {l:List α} (ei:it s h= .ok ⟨its,l.map enc,ok⟩ h)
  (I:Nat→S3→H3→Prop) (hok: ∀i s h,I i s h→ok h) (h0:I 0 s h)
  (step: ∀(i:Nat) a s h,l[i]? =some a→I i s h→(∃s2 h2,(gb g b (enc a) s h= .nx s2 h2∨gb g b (enc a) s h= .ct s2 h2)∧I (i+1) s2 h2)∨(∃v h2,gb g b (enc a) s h= .rt v h2∧Q (.ok v h2))∨∃s2 h2,gb g b (enc a) s h= .bk s2 h2∧Q ((r s2 h2).res))
  (k: ∀s' h',I l.length s' h'→Q ((r s' h').res)):Q ((sSeq (zx it g b) r s h).res):=by
 have:=zuz (Q:=Q) (r:=r) I hok step k _ 0 s h rfl (Nat.zero_le _) h0
 unfold sSeq zx
 simp only [ei,Res.bindS]
 rw [List.drop_zero] at this
 exact this
end L3
namespace Cal
abbrev P:=Int×Int
def at_:List P→Int→Int→Int
 | [],rest,_=>rest
 | p::r,rest,t=>if t < p.1 then p.2 else at_ r rest (t - p.1)
def ahead:List P→Int→Int→Int
 | [],rest,t=>max 0 t*rest
 | p::r,rest,t=>min p.1 (max 0 t)*p.2+ahead r rest (t - p.1)
def tot:List P→Int
 | []=>0
 | p::r=>p.1+tot r
def cc (a b lo hi:Int):Int:=max 0 (min b hi - max a lo+1)
def over:List P→Int→Int→Int→Int→Int
 | [],rest,st,f,l=>rest*cc st l f l
 | p::r,rest,st,f,l=>p.2*cc st (st+p.1 - 1) f l+over r rest (st+p.1) f l
def Pos (rows:List P):Prop:=∀p∈rows,1≤p.1
theorem Pos.tail {p:P} {r:List P} (h:Pos (p::r)):Pos r:=fun x hx=>h x (List.mem_cons_of_mem _ hx)
theorem Pos.head {p:P} {r:List P} (h:Pos (p::r)):1≤p.1:=h p List.mem_cons_self
theorem over_ahead: ∀(rows:List P) (rest st f l:Int),Pos rows→over rows rest st f l=if f≤l then ahead rows rest (l+1 - st) - ahead rows rest (f - st) else 0
 | [],rest,st,f,l,_=>by
  unfold over ahead
  by_cases h:f≤l
  ·rw [if_pos h,←Int.sub_mul,Int.mul_comm]
   congr 1
   unfold cc;omega
  ·rw [if_neg h]
   have:cc st l f l=0:=by unfold cc;omega
   rw [this,Int.mul_zero]
 | p::r,rest,st,f,l,hp=>by
  unfold over ahead
  rw [over_ahead r rest (st+p.1) f l hp.tail]
  have h1:=hp.head
  by_cases h:f≤l
  ·rw [if_pos h,if_pos h]
   have e1:cc st (st+p.1 - 1) f l=min p.1 (max 0 (l+1 - st)) - min p.1 (max 0 (f - st)):=by
    unfold cc
    rcases Int.le_total st f with a | a
    ·rw [Int.max_eq_right a,Int.max_eq_right (show 0≤f - st by omega),Int.max_eq_right (show 0≤l+1 - st by omega)]
     omega
    ·rw [Int.max_eq_left a,Int.max_eq_left (show f - st≤0 by omega),Int.min_eq_right (show (0:Int)≤p.1 by omega)]
     omega
   have e2:l+1 - (st+p.1)=l+1 - st - p.1:=by omega
   have e3:f - (st+p.1)=f - st - p.1:=by omega
   rw [e1,e2,e3,Int.mul_comm,Int.sub_mul]
   omega
  ·rw [if_neg h,if_neg h]
   have:cc st (st+p.1 - 1) f l=0:=by unfold cc;omega
   rw [this,Int.mul_zero]
   rfl
def pk (rest:Int):Int→Int→List P→List P
 | a,c,[]=>if c=rest then [] else [(a,c)]
 | a,c,p::r=>if p.2=c then pk rest (a+p.1) c r else (a,c)::pk rest p.1 p.2 r
def kform (rest:Int):List P→List P
 | []=>[]
 | p::r=>pk rest p.1 p.2 r
def nstep (acc:List P) (r:P):List P:=
 match acc.getLast? with
 | some l=>if l.2=r.2 then acc.dropLast++[(l.1+r.1,r.2)] else acc++[r]
 | none=>acc++[r]
theorem zke {acc:List P} {l:P} (h:acc.getLast? =some l) (r:P):nstep acc r=if l.2=r.2 then acc.dropLast++[(l.1+r.1,r.2)] else acc++[r]:=by
 unfold nstep;rw [h]
theorem nstep_empty {acc:List P} (h:acc=[]) (r:P):nstep acc r=acc++[r]:=by
 rw [h];rfl
theorem nstep_snoc (i:List P) (l r:P):nstep (i++[l]) r=if l.2=r.2 then i++[(l.1+r.1,r.2)] else (i++[l])++[r]:=by
 rw [zke (l:=l) (by simp)]
 simp
def drp (rest:Int) (t:List P):List P:=
 match t.getLast? with
 | some l=>if l.2=rest then t.dropLast else t
 | none=>t
theorem drp_last {rest:Int} {t:List P} {l:P} (h:t.getLast? =some l):drp rest t=if l.2=rest then t.dropLast else t:=by
 unfold drp;rw [h]
theorem drp_empty {rest:Int} {t:List P} (h:t=[]):drp rest t=t:=by rw [h];rfl
theorem zi4 (rest:Int): ∀(r i:List P) (a c:Int),drp rest (r.foldl nstep (i++[(a,c)]))=i++pk rest a c r
 | [],i,a,c=>by
  rw [List.foldl_nil,drp_last (l:=(a,c)) (by simp)]
  unfold pk
  by_cases h:c=rest
  ·rw [if_pos h,if_pos h];simp
  ·rw [if_neg h,if_neg h]
 | p::r,i,a,c=>by
  rw [List.foldl_cons,nstep_snoc]
  unfold pk
  by_cases h:c=p.2
  ·rw [if_pos h,if_pos h.symm]
   have:=zi4 rest r i (a+p.1) p.2
   rw [←h] at this ⊢
   exact this
  ·rw [if_neg h,if_neg (Ne.symm h)]
   have:=zi4 rest r (i++[(a,c)]) p.1 p.2
   rw [this,List.append_assoc]
   rfl
theorem kept_eq (rest:Int) (rows:List P):drp rest (rows.foldl nstep [])=kform rest rows:=by
 cases rows with
 | nil=>rfl
 | cons p r=>exact zi4 rest r [] p.1 p.2
theorem zrv (rest:Int): ∀(r:List P) (a c t:Int),Pos r→at_ (pk rest a c r) rest t=at_ ((a,c)::r) rest t
 | [],a,c,t,_=>by
  unfold pk
  by_cases h:c=rest
  ·rw [if_pos h]
   simp only [at_]
   rw [h];simp
  ·rw [if_neg h]
 | p::r,a,c,t,h=>by
  have h1:=h.head
  unfold pk
  by_cases e:p.2=c
  ·rw [if_pos e,zrv rest r (a+p.1) c t h.tail]
   simp only [at_]
   by_cases c1:t < a
   ·rw [if_pos c1,if_pos (by omega)]
   ·rw [if_neg c1]
    by_cases c2:t - a < p.1
    ·rw [if_pos c2,if_pos (by omega),e]
    ·rw [if_neg c2,if_neg (by omega)]
     congr 1;omega
  ·rw [if_neg e]
   simp only [at_]
   rw [zrv rest r p.1 p.2 (t - a) h.tail]
   simp only [at_]
theorem kform_at (rest:Int) (rows:List P) (t:Int) (h:Pos rows):at_ (kform rest rows) rest t=at_ rows rest t:=by
 cases rows with
 | nil=>rfl
 | cons p r=>exact zrv rest r p.1 p.2 t h.tail
theorem zhb (rest:Int): ∀(r:List P) (a c t:Int),0≤a→Pos r→ahead (pk rest a c r) rest t=ahead ((a,c)::r) rest t
 | [],a,c,t,ha,_=>by
  unfold pk
  by_cases h:c=rest
  ·rw [if_pos h]
   simp only [ahead]
   rw [h,←Int.add_mul]
   congr 1;omega
  ·rw [if_neg h]
 | p::r,a,c,t,ha,h=>by
  have h1:=h.head
  unfold pk
  by_cases e:p.2=c
  ·rw [if_pos e,zhb rest r (a+p.1) c t (by omega) h.tail]
   simp only [ahead]
   have e1:t - (a+p.1)=t - a - p.1:=by omega
   have e2:min (a+p.1) (max 0 t)=min a (max 0 t)+min p.1 (max 0 (t - a)):=by omega
   rw [e1,e2,e,Int.add_mul]
   omega
  ·rw [if_neg e]
   simp only [ahead]
   rw [zhb rest r p.1 p.2 (t - a) (by omega) h.tail]
   simp only [ahead]
theorem kform_ahead (rest:Int) (rows:List P) (t:Int) (h:Pos rows):ahead (kform rest rows) rest t=ahead rows rest t:=by
 cases rows with
 | nil=>rfl
 | cons p r=>exact zhb rest r p.1 p.2 t (by have:=h.head;omega) h.tail
theorem zni (rest:Int): ∀(r:List P) (a c:Int),1≤a→Pos r→Pos (pk rest a c r)
 | [],a,c,ha,_=>by
  unfold pk
  by_cases h:c=rest
  ·rw [if_pos h];exact fun _ h=>(nomatch h)
  ·rw [if_neg h]
   intro p hp
   rw [List.mem_singleton.mp hp];exact ha
 | p::r,a,c,ha,h=>by
  have h1:=h.head
  unfold pk
  by_cases e:p.2=c
  ·rw [if_pos e];exact zni rest r (a+p.1) c (by omega) h.tail
  ·rw [if_neg e]
   intro x hx
   rcases List.mem_cons.mp hx with rfl | hx
   ·exact ha
   ·exact zni rest r p.1 p.2 h1 h.tail x hx
theorem kform_pos (rest:Int) (rows:List P) (h:Pos rows):Pos (kform rest rows):=by
 cases rows with
 | nil=>exact h
 | cons p r=>exact zni rest r p.1 p.2 h.head h.tail
theorem zk9 (rest:Int): ∀(r:List P) (a c:Int) (q:P),q∈pk rest a c r→q.2=c∨∃p∈r,q.2=p.2
 | [],a,c,q,h=>by
  unfold pk at h
  split at h
  ·cases h
  ·rw [List.mem_singleton.mp h];exact .inl rfl
 | p::r,a,c,q,h=>by
  unfold pk at h
  split at h
  ·rcases zk9 rest r _ _ q h with z | ⟨x,hx,e⟩
   ·exact .inl z
   ·exact .inr ⟨x,List.mem_cons_of_mem _ hx,e⟩
  ·rcases List.mem_cons.mp h with rfl | h
   ·exact .inl rfl
   ·rcases zk9 rest r _ _ q h with z | ⟨x,hx,e⟩
    ·exact .inr ⟨p,List.mem_cons_self,z⟩
    ·exact .inr ⟨x,List.mem_cons_of_mem _ hx,e⟩
theorem kform_mem (rest:Int) (rows:List P) (q:P) (h:q∈kform rest rows): ∃p∈rows,q.2=p.2:=by
 cases rows with
 | nil=>cases h
 | cons p r=>
  rcases zk9 rest r _ _ q h with z | ⟨x,hx,e⟩
  ·exact ⟨p,List.mem_cons_self,z⟩
  ·exact ⟨x,List.mem_cons_of_mem _ hx,e⟩
theorem tot_nonneg: ∀{rows:List P},Pos rows→0≤tot rows
 | [],_=>Int.le_refl _
 | p::r,h=>by
  have:=tot_nonneg h.tail
  have:=h.head
  unfold tot;omega
theorem tot_append: ∀(a b:List P),tot (a++b)=tot a+tot b
 | [],b=>by simp [tot]
 | p::a,b=>by simp only [List.cons_append,tot];rw [tot_append a b];omega
end Cal
namespace My
open PySem L2 L3
def mix (c k:Int):Int:=(c % 2147483647*48271+69621*k) % 2147483647
theorem zu1 (c k:Int):0≤mix c k∧mix c k < 2147483647:=⟨Int.emod_nonneg _ (by decide),Int.emod_lt_of_pos _ (by decide)⟩
theorem zgb (c k:Int) (h:H3):f_law_mixed [.int c,.int k] h= .ok (.v (.int (mix c k))) h:=by
 have c1:CMul 69621 k:=znm ⟨by decide,by decide⟩
 have c2:CMul (c % 2147483647) 48271:=ztx ⟨by decide,by decide⟩
 simp_arith [f_law_mixed,zd1,c1,c2,mix]
def cell (ns:List Int) (k:Nat):Int:=(ns[k]?).getD 0
theorem za9 (ns:List Int) (k:Nat) (h:H3):f_law_cell_at [.scr ns,.int k] h= .ok (.v (.int (cell ns k))) h:=by
 by_cases hk:k < ns.length
 ·have hl:((k:Int) < (ns.length:Int)):=by omega
  have ha:atI (ns.map V3.int) (k:Int)=some (.int ns[k]):=zdi (j:=k) (by rw [List.getElem?_map,z4 hk];rfl)
  have hc:cell ns k=ns[k]:=by unfold cell;rw [z4 hk];rfl
  simp_arith [f_law_cell_at,zbv,List.length_map,hl,ha,hc]
 ·have hl: ¬((k:Int) < (ns.length:Int)):=by omega
  have hc:cell ns k=0:=by unfold cell;rw [List.getElem?_eq_none (by omega)];rfl
  simp_arith [f_law_cell_at,zbv,List.length_map,hl,hc]
theorem ztp (ns:List Int) (h:H3):f_law_cell_at [.scr ns,.int 0] h= .ok (.v (.int (cell ns 0))) h:=za9 ns 0 h
theorem zu9 (ns:List Int) (h:H3):f_law_cell_at [.scr ns,.int 1] h= .ok (.v (.int (cell ns 1))) h:=za9 ns 1 h
theorem zuq (ns:List Int) (h:H3):f_law_cell_at [.scr ns,.int 2] h= .ok (.v (.int (cell ns 2))) h:=za9 ns 2 h
theorem zos {s:S3} {h:H3} {v:V3} {k:Int} (h1:0≤k∧k≤1000):oMul s h (.x (.lst [v])) (.x (.int k))=some (.m (.lst (List.replicate k.toNat v))):=by
 have e:(List.replicate k.toNat [v]).flatten=List.replicate k.toNat v:=by
  induction k.toNat with
  | zero=>rfl
  | succ n ih=>rw [List.replicate_succ,List.flatten_cons,ih];rfl
 unfold oMul yB zph oI oRep
 simp only [rdm,rdl,List.length_singleton,Nat.one_mul]
 rw [if_pos ⟨by omega,by omega,by have:=yn;omega⟩,e]
theorem zt3 {s:S3} {h:H3} {i:Nat} {xs ys:List V3} (e:s[i]? =some (some (.m (.lst xs)))) (hl:xs.length+ys.length≤sizeLine):zr s h (.s i) (.x (.lst ys))=some (.m (.lst (xs++ys))):=by
 unfold zr yB zhg oI zml oCat
 simp only [rdm,rdl,e,if_pos hl]
structure Ms (ms:List Int):Prop where
 one: ∀m∈ms,0≤m∧m≤16
 len:ms.length≤200
def ztq (h:H3) (R:Res Vl):Prop:=∃ms:List Int,Ms ms∧R= .ok (.m (.lst (ms.map .int))) h
theorem zn7 (ns:List Int) (h:H3):ztq h (f_law_some [.scr ns] h):=by
 unfold f_law_some zeq zc2
 refine zha rfl ?_
 refine yo (by (simp_arith []) <;> rfl) ?_
 refine zl4 (j:=cell ns 0 % 25) (by (simp_arith [ztp]) <;> rfl) (by omega) (fun i s=> ∃ms x2 x3,s=[some (.v (.scr ns)),some (.m (.lst (ms.map V3.int))),x2,x3]∧(∀m∈ms,0≤m∧m≤16)∧ms.length≤8*i) ⟨[],none,none,rfl,by simp,by simp⟩ ?_ ?_
 ·rintro i s hi ⟨ms,x2,x3,rfl,hm,hl⟩
  have hb:=zu1 (cell ns (3+i)) (i:Int)
  have e1:f_law_cell_at [.scr ns,.int (3+(i:Int))] h= .ok (.v (.int (cell ns (3+i)))) h:=by have:=za9 ns (3+i) h;rwa [show (((3+i:Nat)):Int)=3+(i:Int) by omega] at this
  generalize hM:mix (cell ns (3+i)) (i:Int)=M at hb
  have e2:=zgb (cell ns (3+i)) (i:Int) h
  rw [hM] at e2
  obtain ⟨k,hk,ek⟩: ∃k:Int,(3≤k∧k≤8)∧atI [V3.int 3,.int 8] (cell ns 0 / 25 % 2)=some (.int k):=by
   have:cell ns 0 / 25 % 2=0∨cell ns 0 / 25 % 2=1:=by omega
   rcases this with z | z <;> rw [z]
   ·exact ⟨3,by decide,rfl⟩
   ·exact ⟨8,by decide,rfl⟩
  have hk0:0 < k:=by omega
  have r0:=Int.emod_nonneg (M / 17) (show k≠0 by omega)
  have r1:=Int.emod_lt_of_pos (M / 17) hk0
  have om:=fun (s:S3)=>zos (s:=s) (h:=h) (v:= .int (M % 17)) (k:=1+M / 17 % k) ⟨by omega,by omega⟩
  have oa: ∀x2 x3,zr [some (.v (.scr ns)),some (.m (.lst (ms.map V3.int))),x2,x3] h (.s 1) (.x (.lst (List.replicate (1+M / 17 % k).toNat (.int (M % 17)))))=some (.m (.lst (ms.map V3.int++List.replicate (1+M / 17 % k).toNat (.int (M % 17))))):=fun x2 x3=>zt3 rfl (by have:=yn;rw [List.length_map,List.length_replicate];omega)
  generalize ((i:Nat):Int)=I at*
  refine ⟨_,by (simp_arith [ztp,e1,e2,ek,oMod_int hk0,om,oa]) <;> rfl,ms++List.replicate (1+M / 17 % k).toNat (M % 17),some (.v (.int I)),some (.v (.int M)),?_,?_,?_⟩
  ·rw [List.map_append,List.map_replicate]
  ·intro m hm'
   rcases List.mem_append.mp hm' with z | z
   ·exact hm m z
   ·rw [(List.mem_replicate.mp z).2];omega
  ·rw [List.length_append,List.length_replicate];omega
 ·rintro s ⟨ms,x2,x3,rfl,hm,hl⟩
  exact ⟨ms,⟨hm,by omega⟩,by (simp_arith []) <;> rfl⟩
def zH (ms:List Int):List (Int×Int):=ms.map fun m=>(1,m)
def zj (ms:List Int):List (Int×Int):=(zH ms).foldl Cal.nstep []
theorem zjf (rest:Int): ∀(i:List (Int×Int)) (a b c t:Int) (s:List (Int×Int)),Cal.Pos i→1≤a→1≤b→Cal.at_ (i++(a+b,c)::s) rest t=Cal.at_ (i++(a,c)::(b,c)::s) rest t
 | [],a,b,c,t,s,_,h1,h2=>by
  show (if t < a+b then c else Cal.at_ s rest (t - (a+b)))=(if t < a then c else if t - a < b then c else Cal.at_ s rest (t - a - b))
  by_cases z:t < a
  ·rw [if_pos (by omega),if_pos z]
  ·rw [if_neg z]
   by_cases z2:t < a+b
   ·rw [if_pos z2,if_pos (by omega)]
   ·rw [if_neg z2,if_neg (by omega)];congr 1;omega
 | p::i,a,b,c,t,s,hp,h1,h2=>by
  show (if t < p.1 then p.2 else Cal.at_ (i++(a+b,c)::s) rest (t - p.1))=(if t < p.1 then p.2 else Cal.at_ (i++(a,c)::(b,c)::s) rest (t - p.1))
  rw [zjf rest i a b c _ s hp.tail h1 h2]
theorem zfm (rest:Int): ∀(i:List (Int×Int)) (a b c t:Int) (s:List (Int×Int)),1≤a→1≤b→Cal.ahead (i++(a+b,c)::s) rest t=Cal.ahead (i++(a,c)::(b,c)::s) rest t
 | [],a,b,c,t,s,h1,h2=>by
  show min (a+b) (max 0 t)*c+Cal.ahead s rest (t - (a+b))=min a (max 0 t)*c+(min b (max 0 (t - a))*c+Cal.ahead s rest (t - a - b))
  rw [show t - (a+b)=t - a - b by omega,←Int.add_assoc,←Int.add_mul]
  congr 2;omega
 | p::i,a,b,c,t,s,h1,h2=>by
  show min p.1 (max 0 t)*p.2+Cal.ahead (i++(a+b,c)::s) rest (t - p.1)=min p.1 (max 0 t)*p.2+Cal.ahead (i++(a,c)::(b,c)::s) rest (t - p.1)
  rw [zfm rest i a b c _ s h1 h2]
structure Rw (M:Int) (rows:List (Int×Int)):Prop where
 pos:Cal.Pos rows
 mach: ∀p∈rows,0≤p.2∧p.2≤16
 tot:Cal.tot rows≤M
theorem zmp (rest:Int): ∀(ms:List Int) (acc:List (Int×Int)) (M:Int),(∀m∈ms,0≤m∧m≤16)→Rw M acc→Rw (M+ms.length) ((zH ms).foldl Cal.nstep acc)∧(∀t,Cal.at_ ((zH ms).foldl Cal.nstep acc) rest t=Cal.at_ (acc++zH ms) rest t)∧∀t,Cal.ahead ((zH ms).foldl Cal.nstep acc) rest t=Cal.ahead (acc++zH ms) rest t
 | [],acc,M,_,ha=>by
  refine ⟨by simpa [zH] using ha,fun t=>by simp [zH],fun t=>by simp [zH]⟩
 | m::ms,acc,M,hm,ha=>by
  have h0:=hm m List.mem_cons_self
  have hms: ∀x∈ms,0≤x∧x≤16:=fun x hx=>hm x (List.mem_cons_of_mem _ hx)
  show Rw (M+((m::ms).length:Nat)) ((zH ms).foldl Cal.nstep (Cal.nstep acc (1,m)))∧_∧_
  have st:Rw (M+1) (Cal.nstep acc (1,m))∧(∀t,Cal.at_ (Cal.nstep acc (1,m)++zH ms) rest t=Cal.at_ (acc++zH (m::ms)) rest t)∧∀t,Cal.ahead (Cal.nstep acc (1,m)++zH ms) rest t=Cal.ahead (acc++zH (m::ms)) rest t:=by
   have app:Rw (M+1) (acc++[(1,m)]):=⟨fun p hp=>by
    rcases List.mem_append.mp hp with z | z
    ·exact ha.pos p z
    ·rw [List.mem_singleton.mp z];exact Int.le_refl 1,fun p hp=>by
    rcases List.mem_append.mp hp with z | z
    ·exact ha.mach p z
    ·rw [List.mem_singleton.mp z];exact h0,by rw [Cal.tot_append];have:=ha.tot;show _+(1+0)≤_;omega⟩
   rcases List.eq_nil_or_concat acc with rfl | ⟨ini,q,rfl⟩
   ·rw [Cal.nstep_empty rfl]
    exact ⟨app,fun t=>by rw [List.append_assoc];rfl,fun t=>by rw [List.append_assoc];rfl⟩
   ·rw [List.concat_eq_append] at app ha ⊢
    rw [Cal.nstep_snoc]
    by_cases hq:q.2=m
    ·rw [if_pos hq]
     have hq1:1≤q.1:=ha.pos q (by simp)
     have pi:Cal.Pos ini:=fun p hp=>ha.pos p (by simp [hp])
     have eq:q=(q.1,m):=by rw [←hq]
     refine ⟨⟨fun p hp=>?_,fun p hp=>?_,?_⟩,fun t=>?_,fun t=>?_⟩
     ·rcases List.mem_append.mp hp with z | z
      ·exact pi p z
      ·rw [List.mem_singleton.mp z];show 1≤q.1+1;omega
     ·rcases List.mem_append.mp hp with z | z
      ·exact ha.mach p (by simp [z])
      ·rw [List.mem_singleton.mp z];exact h0
     ·have:=ha.tot
      rw [Cal.tot_append] at this ⊢
      show Cal.tot ini+(q.1+1+0)≤M+1
      have:Cal.tot ini+(q.1+0)≤M:=this
      omega
     ·rw [List.append_assoc,List.append_assoc]
      have:=zjf rest ini q.1 1 m t (zH ms) pi hq1 (by decide)
      rw [List.singleton_append,this]
      conv=>rhs;rw [eq]
      rfl
     ·rw [List.append_assoc,List.append_assoc]
      have:=zfm rest ini q.1 1 m t (zH ms) hq1 (by decide)
      rw [List.singleton_append,this]
      conv=>rhs;rw [eq]
      rfl
    ·rw [if_neg hq]
     exact ⟨app,fun t=>by rw [List.append_assoc];rfl,fun t=>by rw [List.append_assoc];rfl⟩
  obtain ⟨s1,s2,s3⟩:=st
  obtain ⟨f1,f2,f3⟩:=zmp rest ms (Cal.nstep acc (1,m)) (M+1) hms s1
  refine ⟨?_,fun t=>(f2 t).trans (s2 t),fun t=>(f3 t).trans (s3 t)⟩
  have e:M+((m::ms).length:Int)=M+1+(ms.length:Int):=by rw [List.length_cons];omega
  rw [e];exact f1
inductive Sv:V3→Prop
 | int (i:Int):Sv (.int i)
 | bl (b:Bool):Sv (.bl b)
 | non:Sv .non
 | str (z:Str):Sv (.str z)
def yN (lo hi:Int):V3→Bool
 | .int i=>decide (lo≤i) && decide (i≤hi)
 | _=>false
theorem zmh {v:V3} (hv:Sv v) (lo hi:Int) (h:H3):f_is_whole_between [v,.int lo,.int hi] h= .ok (.v (.bl (yN lo hi v))) h:=by
 have w:f_is_whole [v] h= .ok (.v (.bl (match v with | .int _=>true | _=>false))) h:=by
  cases hv <;> (simp_arith [f_is_whole,zew]) <;> rfl
 cases hv with
 | int i=>
  unfold yN
  by_cases h1:lo≤i
  ·(simp_arith [f_is_whole_between,zak,w,h1,decide_eq_true h1,Bool.true_and]) <;> rfl
  ·(simp_arith [f_is_whole_between,zak,w,h1,decide_eq_false h1,Bool.false_and]) <;> rfl
 | bl b=>(simp_arith [f_is_whole_between,zak,w]) <;> rfl
 | non=>(simp_arith [f_is_whole_between,zak,w]) <;> rfl
 | str z=>(simp_arith [f_is_whole_between,zak,w]) <;> rfl
theorem ze2 {v:V3} (hv:Sv v) (h:H3):f_is_machines [v] h= .ok (.v (.bl (yN 0 16 v))) h:=by
 (simp_arith [f_is_machines,zct,zmh hv]) <;> rfl
theorem zjq {v:V3} (hv:Sv v) (h:H3):f_is_rest [v] h= .ok (.v (.bl (yN 1 16 v))) h:=by
 (simp_arith [f_is_rest,zfz,zmh hv]) <;> rfl
theorem zix {lo hi i:Int} (h1:lo≤i) (h2:i≤hi):yN lo hi (.int i)=true:=by show (decide (lo≤i) && decide (i≤hi))=true;rw [decide_eq_true h1,decide_eq_true h2];rfl
theorem zbs {a b c:Int} (h1:b≤a) (h2:a≤c) (h:H3):f_is_whole_between [.int a,.int b,.int c] h= .ok (.v (.bl true)) h:=by rw [zmh (.int a),zix h1 h2]
theorem zcw {a:Int} (h1:0≤a) (h2:a≤16) (h:H3):f_is_machines [.int a] h= .ok (.v (.bl true)) h:=by rw [ze2 (.int a),zix h1 h2]
structure RwB (rows:List (Int×Int)) (rest:Int):Prop where
 len:rows.length≤16
 one: ∀p∈rows,1≤p.1∧p.1≤1000000∧0≤p.2∧p.2≤16
 rest:1≤rest∧rest≤16
theorem nb1:(Str.ofString "beyond" ==Str.ofString "stretches")=false:=by decide+kernel
theorem nb2:(Str.ofString "stretches" =Str.ofString "beyond")=False:=eq_false (by decide+kernel)
abbrev calV (rows:List (Int×Int)) (rest:Int):V3:= .obj "Calendar" [("stretches",.lst (rows.map zd)),("beyond",.int rest)]
theorem zdp {p:Int×Int} (h1:1≤p.1∧p.1≤1000000∧0≤p.2∧p.2≤16) (h:H3):f_is_calendar_row [zd p] h= .ok (.v (.bl true)) h:=by
 simp_arith [f_is_calendar_row,zbp,zbs h1.1 h1.2.1,zcw h1.2.2.1 h1.2.2.2]
theorem zbj {rows:List (Int×Int)} {rest:Int} (hr:RwB rows rest) {x:V3} {h:H3} (hx:IsL h x (rows.map zd)):f_are_calendar_rows [x] h= .ok (.v (.bl true)) h:=by
 obtain ⟨ok,hw⟩:=hx.walk
 have hc:zar [some (.v x)] h= .ok (.m (.lst ((rows.map fun _=>true).map .bl))) h:=by
  unfold zar
  rw [List.map_map]
  refine zkp (x:=x) (enc:=zd) (fun s=> ∃a,s=[a]) _ (by simp_arith []) hw (by have:=hr.len;omega) ⟨none,rfl⟩ ?_
  rintro p s hp ⟨a,rfl⟩
  exact ⟨_,_,by (simp_arith []) <;> rfl,⟨_,rfl⟩,by (simp_arith [zdp (hr.one p hp)]) <;> rfl,rfl⟩
 have hl: ¬((16:Int) < (rows.length:Int)):=by have:=hr.len;omega
 have ha:(rows.map fun _=>true).all id=true:=by simp
 rcases hx with rfl | ⟨n,rfl,en⟩
 ·simp_arith [f_are_calendar_rows,zap,hc,List.length_map,hl,zmm,ha]
 ·(simp_arith [f_are_calendar_rows,zap,hc,en,Option.map_some,List.length_map,hl,zmm,ha]) <;> rfl
theorem zc6 (rows:List (Int×Int)) (hl:rows.length≤1000) {x:V3} {h:H3} (hx:IsL h x (rows.map zd)):f_neighbours_as_one [x] h= .ok (.m (.lst ((rows.foldl Cal.nstep []).map zd))) h:=by
 obtain ⟨ok,hw⟩:=hx.walk
 show Is h _ _
 unfold f_neighbours_as_one zbd za2
 refine zha rfl ?_
 refine yo (by (simp_arith []) <;> rfl) ?_
 refine zmf (x:=x) (l:=rows) (enc:=zd) (by simp_arith []) hw (fun i s=> ∃acc x2 x3,s=[some (.v x),some (.m (.lst (acc.map zd))),x2,x3]∧acc.length≤i∧(rows.drop i).foldl Cal.nstep acc=rows.foldl Cal.nstep []) ⟨[],none,none,rfl,by simp,by simp⟩ ?_ ?_
 ·rintro i p s hi ⟨acc,x2,x3,rfl,ha,hI⟩
  rw [zb3 hi,List.foldl_cons] at hI
  have hil:i < rows.length:=(List.getElem?_eq_some_iff.1 hi).1
  have c3:acc.length < sizeLine:=by have:=yn;omega
  rcases List.eq_nil_or_concat acc with rfl | ⟨ini,q,rfl⟩
  ·refine ⟨_,by (simp_arith [zf3,List.isEmpty_nil]) <;> rfl,⟨[(p.1,p.2)],_,_,rfl,by simp,?_⟩⟩
   rw [←hI];rfl
  ·rw [List.concat_eq_append,Cal.nstep_snoc] at hI
   rw [List.concat_eq_append] at c3 ha ⊢
   rw [List.map_append,List.map_cons,List.map_nil]
   rw [List.length_append,List.length_singleton] at ha
   have e1: ∀(h:H3) (x2 x3:Option Vl),zL [some (.v x),some (.m (.lst (ini.map zd++[zd q]))),x2,x3] h (.s 1) (.x (.int (-1)))=some (.v (zd q)):=fun h x2 x3=>zpu rfl
   have c4:ini.length+1 < sizeLine:=by simpa using c3
   have ne:(ini.map zd++[zd q]).isEmpty=false:=by simp
   have e2:yM (ini.length+1) (-1)=some ini.length:=by
    unfold yM
    rw [if_neg (by decide),if_pos (by omega)]
    congr 1;omega
   by_cases hq:q.2=p.2
   ·rw [if_pos hq] at hI
    refine ⟨_,by (simp_arith [ne,e1,hq,zj1,List.length_append,List.length_map,e2]) <;> rfl,⟨ini++[(q.1+p.1,p.2)],some (.v (.int p.1)),some (.v (.int p.2)),?_,by simpa using by omega,hI⟩⟩
    rw [List.map_append,List.map_cons,List.map_nil,zfn (by rw [List.length_map])]
   ·rw [if_neg hq] at hI
    refine ⟨_,by (simp_arith [ne,e1,hq,c4,List.length_append,List.length_map]) <;> rfl,⟨(ini++[q])++[p],some (.v (.int p.1)),some (.v (.int p.2)),?_,by simpa using by omega,hI⟩⟩
    rw [List.map_append,List.map_append,List.map_cons,List.map_nil,List.map_cons,List.map_nil]
 ·rintro s ⟨acc,x2,x3,rfl,ha,hI⟩
  rw [List.drop_length,List.foldl_nil] at hI
  subst hI
  unfold Is
  (simp_arith []) <;> rfl
theorem zgf (rows:List (Int×Int)) (rest:Int) (hl:rows.length≤1000) {x:V3} {h:H3} (hx:IsL h x (rows.map zd)):f_kept_rows [x,.int rest] h= .ok (.m (.lst ((Cal.kform rest rows).map zd))) h:=by
 rw [←Cal.kept_eq]
 generalize hm:rows.foldl Cal.nstep []=t
 have e0:=zc6 rows hl hx
 rw [hm] at e0
 rcases List.eq_nil_or_concat t with rfl | ⟨ini,q,rfl⟩
 ·rw [Cal.drp_empty rfl]
  (simp_arith [f_kept_rows,zca,e0,zf3,List.isEmpty_nil])
 ·rw [List.concat_eq_append] at e0 ⊢
  rw [Cal.drp_last (l:=q) (by simp),List.dropLast_concat]
  have ne:(ini.map zd++[zd q]).isEmpty=false:=by simp
  have e1: ∀(h:H3) (x0 x1:Option Vl),zL [x0,x1,some (.m (.lst (ini.map zd++[zd q])))] h (.s 2) (.x (.int (-1)))=some (.v (zd q)):=fun h x0 x1=>zpu rfl
  rw [List.map_append,List.map_cons,List.map_nil] at e0
  have e3:mPop (ini.map zd++[zd q]) []=some (ini.map zd,zd q):=by
   unfold mPop;simp
  by_cases hq:q.2=rest
  ·rw [if_pos hq]
   (simp_arith [f_kept_rows,zca,e0,ne,e1,hq,e3])
  ·rw [if_neg hq]
   (simp_arith [f_kept_rows,zca,e0,ne,e1,hq,List.map_append])
theorem zi9 {h:H3} {x:V3} {xs:List V3} (l:IsL h x xs) (c:C3):IsL (h++[c]) x xs:=by
 rcases l with rfl | ⟨n,rfl,e⟩
 ·exact .inl rfl
 ·exact .inr ⟨n,rfl,by rw [List.getElem?_append_left (List.getElem?_eq_some_iff.mp e).1];exact e⟩
theorem zju {rows:List (Int×Int)} {rest:Int} (hr:RwB rows rest) {x:V3} {h:H3} (hx:IsL h x (rows.map zd)):f_Calendar_init [.loc h.length,x,.int rest] (h++[.ins "Calendar" []])= .ok (.v .non) (h++[.ins "Calendar" [("stretches",.lst ((Cal.kform rest rows).map zd)),("beyond",.int rest)]]):=by
 have hg: ∀c,(h++[C3.ins "Calendar" c])[h.length]? =some (.ins "Calendar" c):=fun c=>by simp
 have hs: ∀c d,(h++[C3.ins "Calendar" c]).set h.length d=h++[d]:=fun c d=>zfn rfl
 have ak:=zbj hr (zi9 hx (.ins "Calendar" []))
 have kr:=zgf rows rest (by have:=hr.len;omega) (zi9 hx (.ins "Calendar" []))
 have rk:f_is_rest [.int rest] (h++[.ins "Calendar" []])= .ok (.v (.bl true)) (h++[.ins "Calendar" []]):=by rw [zjq (.int rest),zix hr.rest.1 hr.rest.2]
 simp_arith [f_Calendar_init,za1,ak,rk,zpd,kr,hg,hs,zkk,List.mem_singleton,nb2]
theorem zq1 {p:Int×Int} {r:List (Int×Int)} {rest t:Int}:Cal.at_ (p::r) rest t=if t < p.1 then p.2 else Cal.at_ r rest (t - p.1):=rfl
theorem zt8 {rest t:Int}:Cal.at_ [] rest t=rest:=rfl
theorem zmd (rows:List (Int×Int)) (rest t:Int) (h:H3):f_Calendar_at [calV rows rest,.int t] h= .ok (.v (.int (Cal.at_ rows rest t))) h:=by
 show Is h _ _
 unfold f_Calendar_at zcs zb9
 refine zha rfl ?_
 refine yo (by (simp_arith []) <;> rfl) ?_
 refine it_E (l:=rows) (enc:=zd) (its:=[.lst (rows.map zd)]) (ok:=fun _=>True) (by (simp_arith [iL,yr]) <;> rfl) (fun i s h'=>h'=h∧∃e y3 y4,s=[some (.v (calV rows rest)),some (.v (.int t)),some (.v (.int e)),y3,y4]∧Cal.at_ (rows.drop i) rest (t - e)=Cal.at_ rows rest t) (fun _ _ _ _=>trivial) ⟨rfl,0,none,none,rfl,by rw [List.drop_zero,Int.sub_zero]⟩ ?_ ?_
 ·rintro i p s h' hi ⟨rfl,e,y3,y4,rfl,hI⟩
  rw [zb3 hi,zq1] at hI
  by_cases hq:t < e+p.1
  ·rw [if_pos (by omega)] at hI
   refine .inr (.inl ⟨.v (.int p.2),_,by (simp_arith [hq]) <;> rfl,?_⟩)
   unfold Is;rw [hI]
  ·rw [if_neg (by omega)] at hI
   refine .inl ⟨_,_,.inl (by (simp_arith [hq]) <;> rfl),rfl,e+p.1,_,_,rfl,?_⟩
   rw [←hI];congr 1;omega
 ·rintro s h' ⟨rfl,e,y3,y4,rfl,hI⟩
  rw [List.drop_length,zt8] at hI
  unfold Is;rw [←hI]
  (simp_arith []) <;> rfl
def fN (f:S3→H3→O3):O3→O3
 | .nx s h=>f s h
 | .ct s h=>f s h
 | .bk s h=> .nx s h
 | o=>o
theorem zhy {ok:H3→Prop} {g:G3} {b:D3} {x:V3} {r:List V3} {s:S3} {h:H3} {o:O3} (hok:ok h) (e:gb g b x s h=o) (ho:o≠ .no):zt ok g b (x::r) s h=fN (zt ok g b r) o:=by
 have u:zt ok g b (x::r) s h=match g x s with
  | none=> .no
  | some s1=>fN (zt ok g b r) (b s1 h):=by
  rw [zt,if_pos hok]
  cases g x s with
  | none=>rfl
  | some s1=>simp only [];cases b s1 h <;> rfl
 rw [u]
 unfold gb at e
 cases q:g x s with
 | none=>rw [q] at e;exact absurd e.symm ho
 | some s1=>rw [q] at e;simp only at e ⊢;rw [e]
abbrev zi (n:Nat):List V3:=(List.range n).map fun k:Nat=>V3.int (k:Int)
theorem zfl (n:Nat):zi (n+1)=zi n++[.int (n:Int)]:=by unfold zi;rw [List.range_succ,List.map_append];rfl
theorem zmb {L xs:List V3} {a:Nat} {h:H3} {t:Nat} {v:V3} (ha:h[a]? =some (.lst xs)) (hv:L[t]? =some v) (hl:xs.length≤1000):zbw [.int (t:Int),.lst L,.loc a] h= .ok (.v v) (h.set a (.lst (xs++[.int (t:Int)]))):=by
 have e:=zdi hv
 have ap:yD xs [.int (t:Int)]=some (xs++[.int (t:Int)],.non):=mAppend_ok (by have:=yn;omega)
 generalize ((t:Nat):Int)=T at*
 (simp_arith [zbw,zdk,ha,ap,e]) <;> rfl
abbrev xC:X3:=⟨"NoCalendar",none⟩
abbrev cS (L:List V3) (a:Nat) (n:Int) (r:V3) (rows:List (Int×Int)) (x4 x5:Option Vl):S3:=[some (.v (.fn ("<fn>" :Str) [.lst L,.loc a])),some (.v (.int n)),some (.v r),some (.m (.lst (rows.map zd))),x4,x5]
def cB:D3:=(sSeq (sSet 5 (zfy 0 zbw (aCons (pV 4) aNil))) (sSeq (sFz 5) (sSeq (sIf (tNot3 (tE (eCall f_is_machines (aCons (pV 5) aNil)))) (ze5 ("NoCalendar" :Str) (aCons (pE (eC (.str ("the function tells no number of machines" :Str)))) aNil)) sSkip) (sSeq (sFz 5) (sMt yD (pV 3) (aCons (pE (eTup (aCons (pE (eC (.int 1))) (aCons (pV 5) aNil)))) aNil))))))
theorem zob {L xs:List V3} {a:Nat} {h:H3} {t:Nat} {m:Int} {n:Int} {r:V3} {rows:List (Int×Int)} {x4 x5:Option Vl} (ha:h[a]? =some (.lst xs)) (hv:L[t]? =some (.int m)) (hl:xs.length≤1000) (hm:0≤m∧m≤16) (hr:rows.length≤1000):gb (gN 4) cB (.int (t:Int)) (cS L a n r rows x4 x5) h= .nx (cS L a n r (rows++[(1,m)]) (some (.v (.int (t:Int)))) (some (.v (.int m)))) (h.set a (.lst (xs++[.int (t:Int)]))):=by
 have e1:=zmb ha hv hl
 have e2:=fun h=>zcw hm.1 hm.2 h
 have ap:yD (rows.map zd) [zd (1,m)]=some (rows.map zd++[zd (1,m)],.non):=mAppend_ok (by have:=yn;rw [List.length_map];omega)
 unfold cB cS
 rw [List.map_append,List.map_cons,List.map_nil]
 generalize ((t:Nat):Int)=T at*
 (simp_arith [zfy,e1,e2,ap,List.cons_append,List.nil_append]) <;> rfl
theorem zra {L xs:List V3} {a:Nat} {h:H3} {t:Nat} {v:V3} {n:Int} {r:V3} {rows:List (Int×Int)} {x4 x5:Option Vl} (ha:h[a]? =some (.lst xs)) (hv:L[t]? =some v) (hl:xs.length≤1000) (sv:Sv v) (hb:yN 0 16 v=false):gb (gN 4) cB (.int (t:Int)) (cS L a n r rows x4 x5) h= .ex xC (h.set a (.lst (xs++[.int (t:Int)]))):=by
 have e1:=zmb ha hv hl
 have e2:=fun h=>ze2 sv h
 rw [hb] at e2
 unfold cB cS
 generalize ((t:Nat):Int)=T at*
 (simp_arith [zfy,e1,e2,ze5,List.cons_append,List.nil_append]) <;> rfl
theorem zim {L:List V3} {a:Nat} {h:H3} {n:Int} {r:V3} {ms:List Int} (N:Nat) (ha:a < h.length) (hm: ∀m∈ms,0≤m∧m≤16) (hl:ms.length≤900) (hg: ∀(t:Nat) (m:Int),ms[t]? =some m→L[t]? =some (V3.int m)) (hN:ms.length≤N): ∀(d t:Nat) (x4 x5:Option Vl),ms.length=t+d→
  ∃y4 y5,zt (fun _=>True) (gN 4) cB ((zi N).drop t) (cS L a n r (zH (ms.take t)) x4 x5) (h.set a (.lst (zi t)))=zt (fun _=>True) (gN 4) cB ((zi N).drop ms.length) (cS L a n r (zH ms) y4 y5) (h.set a (.lst (zi ms.length)))
 | 0,t,x4,x5,e=>⟨x4,x5,by
   have e:ms.length=t:=e
   rw [←e,List.take_length]⟩
 | d+1,t,x4,x5,e=>by
  have ht:t < ms.length:=by omega
  have hv:=hg t ms[t] (z4 ht)
  have hN2:(zi N)[t]? =some (.int (t:Int)):=by unfold zi;rw [List.getElem?_map,List.getElem?_range (by omega)];rfl
  have ha1:(h.set a (.lst (zi t)))[a]? =some (.lst (zi t)):=List.getElem?_set_self ha
  have st:=zob (n:=n) (r:=r) (rows:=zH (ms.take t)) (x4:=x4) (x5:=x5) ha1 hv (by simp [zi];omega) (hm _ (List.getElem_mem ht)) (by simp [zH];omega)
  rw [zb3 hN2,zhy trivial st (by intro z;cases z)]
  obtain ⟨y4,y5,q⟩:=zim N ha hm hl hg hN d (t+1) (some (.v (.int (t:Int)))) (some (.v (.int ms[t]))) (by omega)
  refine ⟨y4,y5,?_⟩
  rw [←q]
  show zt _ _ _ _ _ _=_
  rw [List.set_set,←zfl]
  have e2:zH (ms.take t)++[(1,ms[t])]=zH (ms.take (t+1)):=by unfold zH;rw [znc (z4 ht),List.map_append];rfl
  rw [e2]
theorem znb {it:I3} {g:G3} {b:D3} {s:S3} {h:H3} {its xs:List V3} {ok:H3→Prop} (ei:it s h= .ok ⟨its,xs,ok⟩ h) {r:D3} {o:O3} (e:zt ok g b xs s h=o):(sSeq (zx it g b) r s h).res=(match o with | .nx s h=>r s h | o=>o).res:=by
 subst e
 unfold sSeq zx;simp only [ei,Res.bindS] <;> (cases zt ok g b xs s h <;> rfl)
theorem w_eq:zbf=zx (yS (aCons (pV 1) aNil)) (gN 4) cB:=rfl
theorem zsq (ms:List Int):zH (ms.take 0)=[]:=rfl
theorem zjb {L:List V3} {a N:Nat} {r:V3} {h:H3} (hN:N≤200) {Q:Res Vl→Prop} (q:Q ((sSeq zbf (sSeq (sFz 3) (sRet (eObj (eNew ("Calendar" :Str) f_Calendar_init (aCons (pE (eCall f_neighbours_as_one (aCons (pV 3) aNil))) (aCons (pV 2) aNil)))))) (cS L a N r [] none none) h).res)):Q (f_calendar_of [.fn ("<fn>" :Str) [.lst L,.loc a],.int (N:Int),r] h):=by
 refine zha rfl ?_
 unfold zcr
 have e:=zbs (a:=(N:Int)) (b:=0) (c:=200) (by omega) (by omega) h
 generalize ((N:Nat):Int)=K at*
 refine yo (s1:=[some (.v (.fn ("<fn>" :Str) [.lst L,.loc a])),some (.v (.int K)),some (.v r),none,none,none]) (h1:=h) (by (simp_arith [e]) <;> rfl) ?_
 exact yo (s1:=cS L a K r [] none none) (h1:=h) (by (simp_arith []) <;> rfl) q
theorem zsp {L:List V3} {a N:Nat} {r:V3} {rows:List (Int×Int)} {x4 x5:Option Vl} {h:H3} (hN:N≤200):yS (aCons (pV 1) aNil) (cS L a N r rows x4 x5) h= .ok ⟨[],zi N,fun _=>True⟩ h:=by
 have:=zry (a:=aCons (pV 1) aNil) (s:=cS L a N r rows x4 x5) (h:=h) (j:=(N:Int)) (by (simp_arith []) <;> rfl) (by omega)
 rw [Int.toNat_natCast] at this
 exact this
theorem zji {h:H3} {a:Nat} {c:C3} (e:h[a]? =some c):h.set a c=h:=by
 obtain ⟨hi,rfl⟩:=List.getElem?_eq_some_iff.mp e
 exact List.set_getElem_self hi
theorem zts {L:List V3} {a:Nat} {h:H3} {r v:V3} {ms:List Int} (ha:h[a]? =some (.lst [])) (hm: ∀m∈ms,0≤m∧m≤16) (hg: ∀(t:Nat) (m:Int),ms[t]? =some m→L[t]? =some (V3.int m)) (hv:L[ms.length]? =some v) (sv:Sv v) (hb:yN 0 16 v=false) (hl:L.length≤200):f_calendar_of [.fn ("<fn>" :Str) [.lst L,.loc a],.int (L.length:Int),r] h= .ex xC (h.set a (.lst (zi (ms.length+1)))):=by
 have hms:ms.length < L.length:=(List.getElem?_eq_some_iff.mp hv).1
 have hal:a < h.length:=(List.getElem?_eq_some_iff.mp ha).1
 refine zjb (Q:=fun R=>R= .ex xC (h.set a (.lst (zi (ms.length+1))))) hl ?_
 rw [w_eq]
 obtain ⟨y4,y5,q⟩:=zim (L:=L) (n:=(L.length:Int)) (r:=r) L.length hal hm (by omega) hg (by omega) ms.length 0 none none (by omega)
 have hN2:(zi L.length)[ms.length]? =some (.int (ms.length:Int)):=by unfold zi;rw [List.getElem?_map,List.getElem?_range hms];rfl
 have st:=zra (n:=(L.length:Int)) (r:=r) (rows:=zH ms) (x4:=y4) (x5:=y5) (List.getElem?_set_self (l:=h) (a:= .lst (zi ms.length)) hal) hv (by simp [zi];omega) sv hb
 rw [zb3 hN2,zhy trivial st (by intro z;cases z),List.set_set,←zfl,List.drop_zero,zsq] at q
 have z:h.set a (.lst (zi 0))=h:=zji ha
 rw [z] at q
 rw [znb (zsp hl) (o:= .ex xC (h.set a (.lst (zi (ms.length+1))))) q]
 rfl
theorem zlr {a:Nat} {h:H3} {r:V3} {ms:List Int} (ha:h[a]? =some (.lst [])) (hM:Ms ms) {Q:Res Vl→Prop}
  (q: ∀y4 y5,Q ((sSeq (sFz 3) (sRet (eObj (eNew ("Calendar" :Str) f_Calendar_init (aCons (pE (eCall f_neighbours_as_one (aCons (pV 3) aNil))) (aCons (pV 2) aNil))))) (cS (ms.map V3.int) a ms.length r (zH ms) y4 y5) (h.set a (.lst (zi ms.length)))).res)):Q (f_calendar_of [.fn ("<fn>" :Str) [.lst (ms.map V3.int),.loc a],.int (ms.length:Int),r] h):=by
 have hal:a < h.length:=(List.getElem?_eq_some_iff.mp ha).1
 have hl:=hM.len
 refine zjb hl ?_
 rw [w_eq]
 obtain ⟨y4,y5,w⟩:=zim (L:=ms.map V3.int) (n:=(ms.length:Int)) (r:=r) ms.length hal hM.one (by omega) (fun t m e=>by rw [List.getElem?_map,e];rfl) (Nat.le_refl _) ms.length 0 none none (by omega)
 have z:h.set a (.lst (zi 0))=h:=zji ha
 have dl:(zi ms.length).drop ms.length=[]:=List.drop_eq_nil_of_le (by simp [zi])
 rw [dl,z,List.drop_zero,zsq] at w
 have w2:zt (fun _=>True) (gN 4) cB [] (cS (ms.map V3.int) a ms.length r (zH ms) y4 y5) (h.set a (.lst (zi ms.length)))= .nx (cS (ms.map V3.int) a ms.length r (zH ms) y4 y5) (h.set a (.lst (zi ms.length))):=if_pos trivial
 rw [w2] at w
 rw [znb (zsp hl) w]
 exact q y4 y5
theorem zqq {s:S3} {h:H3} {n:Nat} {xs:List V3} {j:Int} (e:h[n]? =some (.lst xs)):zL s h (.x (.loc n)) (.x (.int j))=(atI xs j).map .v:=by
 unfold zL yB oIxT oIxL oIxS;simp only [rdl,e];cases atI xs j <;> rfl
def zpl (ms:List Int) (h:H3) (R:Res Vl):Prop:=R= .ok (.v (.loc h.length)) (h++[.lst ((zj ms).map zd)])
theorem zio (m:Int) (ms:List Int):zH (m::ms)=(1,m)::zH ms:=rfl
theorem zhc {ms:List Int} (hM:Ms ms) (h:H3):f_law_runs [.lst (ms.map V3.int)] h= .ok (.v (.loc h.length)) (h++[.lst ((zj ms).map zd)]):=by
 have hl:=hM.len
 show zpl ms h _
 unfold f_law_runs zex zda
 refine zha rfl ?_
 have hg: ∀c:C3,(h++[c])[h.length]? =some c:=fun c=>by simp
 have hs: ∀c d:C3,(h++[c]).set h.length d=h++[d]:=fun c d=>zfn rfl
 refine yo (s1:=[some (.v (.lst (ms.map V3.int))),some (.v (.loc h.length)),none]) (h1:=h++[.lst []]) (by (simp_arith [eGl]) <;> rfl) ?_
 refine it_E (l:=ms) (enc:=V3.int) (its:=[.lst (ms.map V3.int)]) (ok:=fun _=>True) (by (simp_arith [iL,yr]) <;> rfl) (fun i s h'=> ∃acc x2,h'=h++[.lst (acc.map zd)]∧s=[some (.v (.lst (ms.map V3.int))),some (.v (.loc h.length)),x2]∧acc.length≤i∧(zH (ms.drop i)).foldl Cal.nstep acc=zj ms) (fun _ _ _ _=>trivial) ⟨[],none,rfl,rfl,by simp,rfl⟩ ?_ ?_
 ·rintro i m s h' hi ⟨acc,x2,rfl,rfl,ha,hI⟩
  rw [zb3 hi,zio,List.foldl_cons] at hI
  have hil:i < ms.length:=(List.getElem?_eq_some_iff.1 hi).1
  have ne: ∀x2,ym [some (.v (.lst (ms.map V3.int))),some (.v (.loc h.length)),x2] (h++[.lst (acc.map zd)]) (.x (.loc h.length)) (.x (.lst []))=some (.v (.bl !(acc.map zd).isEmpty)):=fun x2=>zg7 (zmj (hg _))
  rcases List.eq_nil_or_concat acc with rfl | ⟨ini,q,rfl⟩
  ·have ne: ∀s:S3,ym s (h++[.lst []]) (.x (.loc h.length)) (.x (.lst []))=some (.v (.bl false)):=fun s=>zg7 (zmj (hg _))
   have ap: ∀y:V3,yD [] [y]=some ([y],.non):=fun y=>mAppend_ok (xs:=[]) (by have:=yn;simp only [List.length_nil];omega)
   refine .inl ⟨_,_,.inl (by (simp_arith [ne,List.map_nil,hg,hs,ap]) <;> rfl),⟨[(1,m)],_,rfl,rfl,by simp,?_⟩⟩
   rw [←hI];rfl
  ·rw [List.concat_eq_append,Cal.nstep_snoc] at hI
   rw [List.concat_eq_append] at ha ne ⊢
   rw [List.map_append,List.map_cons,List.map_nil] at ne ⊢
   rw [List.length_append,List.length_singleton] at ha
   have ne2:(ini.map zd++[zd q]).isEmpty=false:=by simp
   have e1: ∀(s:S3),zL s (h++[.lst (ini.map zd++[zd q])]) (.x (.loc h.length)) (.x (.int (-1)))=some (.v (zd q)):=fun s=>by
    rw [zqq (hg _)];simp only [atm1,Option.map_some]
   have e3:mPop (ini.map zd++[zd q]) []=some (ini.map zd,zd q):=by
    unfold mPop;simp
   have ap: ∀y:V3,yD (ini.map zd) [y]=some (ini.map zd++[y],.non):=fun y=>mAppend_ok (by have:=yn;rw [List.length_map];omega)
   have ap2: ∀y:V3,yD (ini.map zd++[zd q]) [y]=some (ini.map zd++[zd q]++[y],.non):=fun y=>mAppend_ok (by have:=yn;rw [List.length_append,List.length_map,List.length_singleton];omega)
   by_cases hq:q.2=m
   ·rw [if_pos hq] at hI
    refine .inl ⟨_,_,.inl (by (simp_arith [ne,ne2,e1,hq,hg,hs,eMt0,e3,ap,zmj (hg _)]) <;> rfl),⟨ini++[(q.1+1,m)],_,?_,rfl,by simpa using by omega,hI⟩⟩
    rw [List.map_append,List.map_cons,List.map_nil]
   ·rw [if_neg hq] at hI
    refine .inl ⟨_,_,.inl (by (simp_arith [ne,ne2,e1,hq,hg,hs,ap2]) <;> rfl),⟨(ini++[q])++[(1,m)],_,?_,rfl,by simpa using by omega,hI⟩⟩
    rw [List.map_append,List.map_append,List.map_cons,List.map_nil,List.map_cons,List.map_nil]
 ·rintro s h' ⟨acc,x2,rfl,rfl,ha,hI⟩
  rw [List.drop_length] at hI
  have hI:acc=zj ms:=hI
  subst hI
  unfold zpl
  (simp_arith []) <;> rfl
theorem zp5 (n:Nat): ∀l:List (Int×Int),lows n (l.map zd)=true
 | []=>rfl
 | p::r=>by simp only [List.map_cons,lows,low,zp5 n r,Bool.and_self]
theorem zeh: ∀l:List (Int×Int),zW (l.map zd)=true
 | []=>by simp only [List.map_nil,zW]
 | p::r=>by simp only [List.map_cons,zW,L3.plain,zeh r,Bool.and_self]
theorem zd9: ∀l:List Int,zW (l.map V3.int)=true
 | []=>by simp only [List.map_nil,zW]
 | p::r=>by simp only [List.map_cons,zW,L3.plain,zd9 r,Bool.and_self]
theorem zdn: ∀a b:List V3,zW (a++b)=(zW a && zW b)
 | [],b=>by simp only [List.nil_append,zW,Bool.true_and]
 | x::a,b=>by simp only [List.cons_append,zW,zdn a b,Bool.and_assoc]
theorem zjz (n:Nat):zW (zi n)=true:=by
 induction n with
 | zero=>simp only [zi,List.range_zero,List.map_nil,zW]
 | succ n ih=>rw [zfl,zdn,ih];simp only [zW,L3.plain,Bool.and_self]
theorem znf: ∀{rows:List (Int×Int)} {p:Int×Int},Cal.Pos rows→p∈rows→p.1≤Cal.tot rows
 | q::r,p,hp,h=>by
  have h1:=Cal.tot_nonneg hp.tail
  have h2:=hp.head
  show p.1≤q.1+Cal.tot r
  rcases List.mem_cons.mp h with rfl | h
  ·omega
  ·have:=znf hp.tail h;omega
theorem zli {ms:List Int} (hM:Ms ms) (rest:Int):Rw 200 (zj ms)∧(∀t,Cal.at_ (zj ms) rest t=Cal.at_ (zH ms) rest t)∧∀t,Cal.ahead (zj ms) rest t=Cal.ahead (zH ms) rest t:=by
 have n0: ∀p:Int×Int,p∈([]:List (Int×Int))→False:=fun p h=>by cases h
 obtain ⟨f1,f2,f3⟩:=zmp rest ms [] 0 hM.one ⟨fun p h=>(n0 p h).elim,fun p h=>(n0 p h).elim,Int.le_refl 0⟩
 refine ⟨⟨f1.pos,f1.mach,?_⟩,f2,f3⟩
 have:=f1.tot;have:=hM.len
 show Cal.tot ((zH ms).foldl Cal.nstep [])≤200
 omega
theorem zj3 {ms:List Int} (hM:Ms ms) {rest:Int} (hr:1≤rest∧rest≤16) (hl:(zj ms).length≤16):RwB (zj ms) rest:=by
 obtain ⟨f1,-,-⟩:=zli hM rest
 refine ⟨hl,fun p hp=>?_,hr⟩
 have:=f1.pos p hp;have:=f1.mach p hp;have:=znf f1.pos hp;have:=f1.tot
 omega
theorem ztg {ms:List Int} (hM:Ms ms) (h:H3):f_neighbours_as_one [.lst ((zH ms).map zd)] h= .ok (.m (.lst ((zj ms).map zd))) h:=by
 have hl:=hM.len
 exact zc6 (zH ms) (by simp [zH];omega) (.inl rfl)
abbrev calM (rows:List (Int×Int)) (rest:Int):C3:= .ins "Calendar" [("stretches",.lst (rows.map zd)),("beyond",.int rest)]
theorem zor {a:Nat} {h:H3} {rest:Int} {ms:List Int} (ha:h[a]? =some (.lst [])) (hM:Ms ms) (hr:RwB (zj ms) rest):f_calendar_of [.fn ("<fn>" :Str) [.lst (ms.map V3.int),.loc a],.int (ms.length:Int),.int rest] h= .ok (.m (calM (Cal.kform rest (zj ms)) rest)) (h.set a (.lst (zi ms.length))):=by
 refine zlr (Q:=fun R=>R=_) ha hM fun y4 y5=>?_
 generalize h.set a (.lst (zi ms.length))=g
 generalize ((ms.length:Nat):Int)=N
 have e1:=ztg hM g
 have e2:=zju (x:= .lst ((zj ms).map zd)) (h:=g) hr (.inl rfl)
 have hg: ∀c:C3,(g++[c])[g.length]? =some c:=fun c=>by simp
 have hlow:lowF g.length [(Str.ofString "stretches",V3.lst ((Cal.kform rest (zj ms)).map zd)),(Str.ofString "beyond",V3.int rest)]=true:=by
  simp only [lowF,low,zp5,Bool.and_self]
 (simp_arith [cS,e1,eObj,eNew,e2,hg,hlow]) <;> rfl
theorem zm0 {rows:List (Int×Int)} (hl:16 < rows.length) (h:H3):f_are_calendar_rows [.lst (rows.map zd)] h= .ok (.v (.bl false)) h:=by
 have hl:((16:Int) < (rows.length:Int)):=by omega
 simp_arith [f_are_calendar_rows,zap,List.length_map,hl]
theorem zq8 {rows:List (Int×Int)} {r:V3} (sv:Sv r) (hn:16 < rows.length∨(RwB rows 1∧yN 1 16 r=false)) (h:H3):f_Calendar_init [.loc h.length,.lst (rows.map zd),r] (h++[.ins "Calendar" []])= .ex xC (h++[.ins "Calendar" []]):=by
 rcases hn with hl | ⟨hr,hb⟩
 ·have ak:=zm0 hl (h++[.ins "Calendar" []])
  (simp_arith [f_Calendar_init,za1,ak,ze5]) <;> rfl
 ·have ak:=zbj hr (x:= .lst (rows.map zd)) (h:=h++[.ins "Calendar" []]) (.inl rfl)
  have rk:=zjq sv (h++[.ins "Calendar" []])
  rw [hb] at rk
  (simp_arith [f_Calendar_init,za1,ak,rk,ze5]) <;> rfl
theorem zsv {a:Nat} {h:H3} {r:V3} {ms:List Int} (ha:h[a]? =some (.lst [])) (hM:Ms ms) (sv:Sv r) (hn:16 < (zj ms).length∨yN 1 16 r=false):f_calendar_of [.fn ("<fn>" :Str) [.lst (ms.map V3.int),.loc a],.int (ms.length:Int),r] h= .ex xC (h.set a (.lst (zi ms.length))++[.ins "Calendar" []]):=by
 refine zlr (Q:=fun R=>R=_) ha hM fun y4 y5=>?_
 generalize h.set a (.lst (zi ms.length))=g
 generalize ((ms.length:Nat):Int)=N
 have e1:=ztg hM g
 have e2:=zq8 (rows:=zj ms) sv (by
  by_cases hl:16 < (zj ms).length
  ·exact .inl hl
  ·rcases hn with z | z
   ·exact .inl z
   ·exact .inr ⟨zj3 hM (by decide) (by omega),z⟩) g
 (simp_arith [cS,e1,eObj,eNew,e2]) <;> rfl
theorem zqo {L:List V3} {a:Nat} {h h4:H3} {r:V3} {v:Vl} (h0:zj9 h=true) (hL:zW L=true) (hr:L3.plain r=true) (hh:(h.set 0 .dead).all zP=true) (e:f_calendar_of [.fn ("<fn>" :Str) [.lst L,.loc a],.int (L.length:Int),r] (h.set 0 .dead)= .ok v h4) (hv:zeu v=true) (hh4:h4.all zP=true):f_law_made [.lst L,.loc a,r] h= .ok v h4:=by
 have p1:(L3.plain (.lst L) && L3.plain (.loc a) && zW [.int (L.length:Int),r] && (h.set 0 .dead).all zP)=true:=by simp only [L3.plain,zW,hL,hr,hh,Bool.and_self]
 have p2:(zeu v && h4.all zP)=true:=by rw [hv,hh4];rfl
 (simp_arith [f_law_made,zdm,zks,two3,h0,p1,p2,e]) <;> rfl
theorem zl6 {L:List V3} {a:Nat} {h h4:H3} {r:V3} (h0:zj9 h=true) (hL:zW L=true) (hr:L3.plain r=true) (hh:(h.set 0 .dead).all zP=true) (e:f_calendar_of [.fn ("<fn>" :Str) [.lst L,.loc a],.int (L.length:Int),r] (h.set 0 .dead)= .ex xC h4) (hh4:h4.all zP=true):f_law_made [.lst L,.loc a,r] h= .ok (.v .non) h4:=by
 have p1:(L3.plain (.lst L) && L3.plain (.loc a) && zW [.int (L.length:Int),r] && (h.set 0 .dead).all zP)=true:=by simp only [L3.plain,zW,hL,hr,hh,Bool.and_self]
 have pk: ∀s,pick (mtL mtb) xC s h4 [(("NoCalendar" :Str),none,(sRet (eC .non)))]= .rt (.v .non) h4:=fun s=>rfl
 (simp_arith [f_law_made,zdm,zks,two3,h0,p1,hh4,e,pk]) <;> rfl
theorem zcq (a b c d:Int) (h:H3):f_common_count [.int a,.int b,.int c,.int d] h= .ok (.v (.int (Cal.cc a b c d))) h:=by
 simp_arith [f_common_count,zcl,Cal.cc]
theorem zl9 {p:Int×Int} {r:List (Int×Int)} {rest st f l:Int}:Cal.over (p::r) rest st f l=p.2*Cal.cc st (st+p.1 - 1) f l+Cal.over r rest (st+p.1) f l:=rfl
theorem zo7 {rest st f l:Int}:Cal.over [] rest st f l=rest*Cal.cc st l f l:=rfl
def zsk (h:H3) (n:Int) (R:Res Vl):Prop:=R= .ok (.v (.int n)) h
theorem zd8 {rows:List (Int×Int)} {rest:Int} (hp: ∀p∈rows,0≤p.2∧p.2≤16) (hr:1≤rest∧rest≤16) (f l:Int) (h:H3):f_Calendar_over [calV rows rest,.int f,.int l] h= .ok (.v (.int (Cal.over rows rest 0 f l))) h:=by
 show zsk h _ _
 unfold f_Calendar_over zb8 zbk
 refine zha rfl ?_
 refine yo (by (simp_arith []) <;> rfl) ?_
 refine yo (by (simp_arith []) <;> rfl) ?_
 refine zmf (x:= .lst (rows.map zd)) (l:=rows) (enc:=zd) (by (simp_arith [ya,yL,List.mem_singleton,List.lookup]) <;> rfl) rfl (fun i s=> ∃t b x6 x7,s=[some (.v (calV rows rest)),some (.v (.int f)),some (.v (.int l)),some (.v (.int t)),some (.v (.int b)),x6,x7]∧t+Cal.over (rows.drop i) rest b f l=Cal.over rows rest 0 f l) ⟨0,0,none,none,rfl,by simp⟩ ?_ ?_
 ·rintro i p s hi ⟨t,b,x6,x7,rfl,hI⟩
  have hp:=hp p (List.mem_of_getElem? hi)
  have c2: ∀x,CMul p.2 x:=fun x=>znm ⟨by omega,by omega⟩
  refine ⟨_,by (simp_arith [c2,zcq]) <;> rfl,⟨_,_,_,_,rfl,?_⟩⟩
  rw [zb3 hi,zl9] at hI
  rw [←hI]
  omega
 ·rintro s ⟨t,b,x6,x7,rfl,hI⟩
  have c2: ∀x,CMul rest x:=fun x=>znm ⟨by omega,by omega⟩
  rw [List.drop_length,zo7] at hI
  unfold zsk
  rw [←hI]
  (simp_arith [c2,zcq,ya,yL,List.mem_singleton,List.lookup,nb1])
theorem zdj (a:Int) (h:H3):f_law_whole [.int a,.int a] h= .ok (.v (.bl true)) h:=by
 simp_arith [f_law_whole,zd0,eq_self]
theorem zpc (l:List (Int×Int)):((l.map zd).zip (l.map zd)).map (fun q=>V3.tup [q.1,q.2])=l.map (fun p=>V3.tup [zd p,zd p]):=by
 induction l with
 | nil=>rfl
 | cons x r ih=>simp only [List.map_cons,List.zip_cons_cons,ih]
theorem zku (l:List (Int×Int)) (h:H3):f_law_pairs [.lst (l.map zd),.lst (l.map zd)] h= .ok (.v (.bl true)) h:=by
 show Is h _ _
 unfold f_law_pairs zdy zcv
 refine zha rfl ?_
 refine yo (by (simp_arith [eq_self]) <;> rfl) ?_
 refine it_R (l:=l) (enc:=fun p=> .tup [zd p,zd p]) (its:=[.lst (l.map zd),.lst (l.map zd)]) (ok:=fun _=>True∧True) (by rw [←zpc];(simp_arith [zri,yr]) <;> rfl) ⟨trivial,trivial⟩ (fun i s=> ∃y2 y3,s=[some (.v (.lst (l.map zd))),some (.v (.lst (l.map zd))),y2,y3]) ⟨none,none,rfl⟩ ?_ ?_
 ·rintro i p s hi ⟨y2,y3,rfl⟩
  exact ⟨_,by (simp_arith [zdj,eq_self]) <;> rfl,⟨_,_,rfl⟩⟩
 ·rintro s ⟨y2,y3,rfl⟩
  unfold Is
  simp_arith []
theorem zmg (rest:Int): ∀(ms:List Int) (t:Nat) (m:Int),ms[t]? =some m→Cal.at_ (zH ms) rest (t:Int)=m
 | [],t,m,h=>by simp at h
 | x::r,0,m,h=>by
  have h:x=m:=by simpa using h
  show (if ((0:Nat):Int) < 1 then x else _)=m
  rw [if_pos (by decide),h]
 | x::r,t+1,m,h=>by
  have h:r[t]? =some m:=by simpa using h
  show (if ((t+1:Nat):Int) < 1 then x else Cal.at_ (zH r) rest (((t+1:Nat):Int) - 1))=m
  rw [if_neg (by omega),show ((t+1:Nat):Int) - 1=(t:Int) by omega]
  exact zmg rest r t m h
theorem zpv (rest:Int): ∀(ms:List Int),Cal.at_ (zH ms) rest (ms.length:Int)=rest
 | []=>rfl
 | x::r=>by
  show (if ((r.length+1:Nat):Int) < 1 then x else Cal.at_ (zH r) rest (((r.length+1:Nat):Int) - 1))=rest
  rw [if_neg (by omega),show ((r.length+1:Nat):Int) - 1=(r.length:Int) by omega]
  exact zpv rest r
theorem zgv (rest:Int): ∀(ms:List Int),Cal.ahead (zH ms) rest ((ms.length:Int)+1)=ms.sum+rest
 | []=>by
  show max 0 (((0:Nat):Int)+1)*rest=0+rest
  rw [show max 0 (((0:Nat):Int)+1)=1 by decide];omega
 | x::r=>by
  show min 1 (max 0 (((r.length+1:Nat):Int)+1))*x+Cal.ahead (zH r) rest (((r.length+1:Nat):Int)+1 - 1)=(x::r).sum+rest
  rw [show min 1 (max 0 (((r.length+1:Nat):Int)+1))=1 by omega,show ((r.length+1:Nat):Int)+1 - 1=(r.length:Int)+1 by omega,zgv rest r,List.sum_cons]
  omega
theorem zmk (rest:Int): ∀(rows:List (Int×Int)) (t:Int),t≤0→Cal.Pos rows→Cal.ahead rows rest t=0
 | [],t,ht,_=>by
  show max 0 t*rest=0
  rw [Int.max_eq_left ht,Int.zero_mul]
 | p::r,t,ht,hp=>by
  have:=hp.head
  show min p.1 (max 0 t)*p.2+Cal.ahead r rest (t - p.1)=0
  rw [Int.max_eq_left ht,Int.min_eq_right (by omega),Int.zero_mul,zmk rest r _ (by omega) hp.tail];rfl
theorem zvr {ms:List Int} (hm: ∀m∈ms,0≤m∧m≤16):0≤ms.sum∧ms.sum≤16*(ms.length:Int):=by
 induction ms with
 | nil=>simp
 | cons x r ih=>
  have h1:=hm x List.mem_cons_self
  have h2:=ih fun y hy=>hm y (List.mem_cons_of_mem _ hy)
  rw [List.sum_cons,List.length_cons];omega
theorem ztw {ms:List Int} (hM:Ms ms):zhx 0 ms=true:=by
 have:=zvr hM.one;have:=hM.len
 exact zh6 (Int.le_refl _) (fun x hx=>(hM.one x hx).1) (by omega)
theorem zt2 {h:H3} {n:Nat} {rows:List (Int×Int)} {rest:Int} (e:h[n]? =some (calM rows rest)):f_Calendar_rows [.loc n] h= .ok (.m (.lst (rows.map zd))) h:=by
 (simp_arith [f_Calendar_rows,zbh,ya,yL,e,List.mem_singleton,List.lookup,bList]) <;> rfl
theorem zuj {h:H3} {rows:List (Int×Int)} {rest:Int}:f_Calendar_rows [calV rows rest] h= .ok (.m (.lst (rows.map zd))) h:=by
 (simp_arith [f_Calendar_rows,zbh,ya,yL,List.mem_singleton,List.lookup,bList]) <;> rfl
theorem ztt {h:H3} {rows:List (Int×Int)} {rest:Int}:f_Calendar_rest [calV rows rest] h= .ok (.v (.int rest)) h:=by
 (simp_arith [f_Calendar_rest,zb1,ya,yL,List.mem_singleton,List.lookup,nb1]) <;> rfl
theorem lk1 (m:Str) (a b:V3) (h1:(m==Str.ofString "stretches")=false) (h2:(m==Str.ofString "beyond")=false):List.lookup m [(Str.ofString "stretches",a),(Str.ofString "beyond",b)]=none:=by
 simp only [List.lookup,h1,h2]
theorem zrh {ms:List Int} (hM:Ms ms) {rest:Int} (hr:RwB (zj ms) rest) {h:H3} {n:Nat} (e:h[n]? =some (.lst ((zj ms).map zd))): ∃h',(∃c,h'=h++[c])∧f_law_like [calV (Cal.kform rest (zj ms)) rest,.loc n,.int rest,.lst (ms.map V3.int)] h= .ok (.v (.bl true)) h':=by
 obtain ⟨r1,r2,r3⟩:=zli hM rest
 have hn:=zju (x:= .loc n) (h:=h) hr (.inr ⟨n,rfl,e⟩)
 have kp:=Cal.kform_pos rest _ r1.pos
 have km: ∀p∈Cal.kform rest (zj ms),0≤p.2∧p.2≤16:=fun p hp=>by
  obtain ⟨q,hq,e⟩:=Cal.kform_mem rest _ p hp
  rw [e];exact r1.mach q hq
 have A1: ∀(t:Nat) (m:Int),ms[t]? =some m→Cal.at_ (Cal.kform rest (zj ms)) rest (t:Int)=m:=fun t m e=>by rw [Cal.kform_at _ _ _ r1.pos,r2];exact zmg rest ms t m e
 have A2:Cal.at_ (Cal.kform rest (zj ms)) rest (ms.length:Int)=rest:=by rw [Cal.kform_at _ _ _ r1.pos,r2];exact zpv rest ms
 have A3:Cal.over (Cal.kform rest (zj ms)) rest 0 0 (ms.length:Int)=ms.sum+rest:=by
  rw [Cal.over_ahead _ _ _ _ _ kp,if_pos (by omega),Int.sub_zero,Int.sub_zero,Cal.kform_ahead _ _ _ r1.pos,r3,zgv,zmk _ _ _ (Int.le_refl 0) kp];omega
 have hR:=hr.rest
 generalize Cal.kform rest (zj ms)=kf at*
 generalize hh1:h++[C3.ins "Calendar" [("stretches",.lst (kf.map zd)),("beyond",.int rest)]]=h1 at hn
 have hc:h1[h.length]? =some (calM kf rest):=by rw [←hh1];simp
 have e1:=zt2 hc
 have e2:=fun h=>zuj (h:=h) (rows:=kf) (rest:=rest)
 have e3:=fun h=>ztt (h:=h) (rows:=kf) (rest:=rest)
 have q1:=zku kf h1
 refine ⟨h1,⟨_,hh1.symm⟩,?_⟩
 show Is h1 _ _
 unfold f_law_like zes zdg
 refine zha rfl ?_
 have k1:=lk1 "rows" (.lst (kf.map zd)) (.int rest) (by decide+kernel) (by decide+kernel)
 have k2:=lk1 "rest" (.lst (kf.map zd)) (.int rest) (by decide+kernel) (by decide+kernel)
 have k3:=lk1 "at" (.lst (kf.map zd)) (.int rest) (by decide+kernel) (by decide+kernel)
 have k4:=lk1 "over" (.lst (kf.map zd)) (.int rest) (by decide+kernel) (by decide+kernel)
 refine yo (s1:=[some (.v (calV kf rest)),some (.v (.loc n)),some (.v (.int rest)),some (.v (.lst (ms.map V3.int))),some (.v (.loc h.length)),none]) (h1:=h1) (by (simp_arith [eNew,hn]) <;> rfl) ?_
 refine yo (s1:=[some (.v (calV kf rest)),some (.v (.loc n)),some (.v (.int rest)),some (.v (.lst (ms.map V3.int))),some (.v (.loc h.length)),none]) (h1:=h1) (by (simp_arith [y6,yL,hc,k1,k2,e1,e2,e3,q1,zdj]) <;> rfl) ?_
 refine zl4 (j:=(ms.length:Int)) (by (simp_arith [List.length_map]) <;> rfl) (by have:=hM.len;omega) (fun i s=> ∃x,s=[some (.v (calV kf rest)),some (.v (.loc n)),some (.v (.int rest)),some (.v (.lst (ms.map V3.int))),some (.v (.loc h.length)),x]) ⟨none,rfl⟩ ?_ ?_
 ·rintro i s hi ⟨x,rfl⟩
  have hi:i < ms.length:=by omega
  have e4:ms[i]? =some ms[i]:=z4 hi
  have e5:atI (ms.map V3.int) (i:Int)=some (.int ms[i]):=zdi (by rw [List.getElem?_map,e4];rfl)
  have e6:=zmd kf rest (i:Int) h1
  rw [A1 i _ e4] at e6
  generalize ((i:Nat):Int)=I at*
  exact ⟨_,by (simp_arith [y6,yL,k3,e6,e5,zdj]) <;> rfl,_,rfl⟩
 ·rintro s ⟨x,rfl⟩
  have e6:=zmd kf rest (ms.length:Int) h1
  rw [A2] at e6
  have e7:=zd8 km hR 0 (ms.length:Int) h1
  rw [A3] at e7
  have su:=ztw hM
  unfold Is
  generalize hN:((ms.length:Nat):Int)=N at*
  (simp_arith [y6,yL,k3,k4,List.length_map,hN,e6,e7,zn1 su,zdj]) <;> rfl
theorem p20 (s:S3) (h:H3):oPow s h (.x (.int 10)) (.x (.int 20))=some (.v (.int 100000000000000000000)):=by
 unfold oPow;rfl
theorem zvf (n:Nat):(yi (n:Int)).map V3.int=zi n:=by
 unfold yi zi;rw [List.map_map,Int.toNat_natCast];rfl
theorem zox (s:S3) (h:H3) (n:Nat) (hn:n≤1000):yW s h [.x (.int (n:Int))]=some (.m (.lst (zi n))):=by
 unfold yW;rw [←zvf];exact if_pos (by omega)
theorem zmu {h:H3} {n:Nat}: ∀x∈zi n,yb h 8 x x=some true:=fun x hx=>by
 obtain ⟨k,-,rfl⟩:=List.mem_map.mp hx
 rw [zil,decide_eq_true rfl]
theorem zjm {h:H3} {n:Nat} (s:S3) (e:h[2]? =some (.lst (zi n))):yh s h (.x (.loc 2)) (.x (.lst (zi n)))=some (.v (.bl true)):=zn8 (zmj e) zpa zmu
theorem zgz {h:H3} {n:Nat} (s:S3) (e:h[2]? =some (.lst (zi n))):ym s h (.x (.loc 2)) (.x (.lst (zi n)))=some (.v (.bl false)):=zo0 (zmj e) zpa zmu
theorem six (p:Int) (h:0≤p∧p < 6):p=0∨p=1∨p=2∨p=3∨p=4∨p=5:=by omega
theorem zo3 (c:Int): ∃v,Sv v∧yN 0 16 v=false∧L3.plain v=true∧atI [V3.int 17,.int (-1),.int (18+c / 4 % 100000000000000000000),.bl true,.non,.str ("3" :Str)] (c / 4 % 6)=some v:=by
 have h0:=Int.emod_nonneg (c / 4) (show (100000000000000000000:Int)≠0 by decide)
 generalize c / 4 % 100000000000000000000=K at*
 rcases six (c / 4 % 6) (by omega) with z | z | z | z | z | z <;> rw [z]
 ·exact ⟨_,.int _,rfl,rfl,rfl⟩
 ·exact ⟨_,.int _,rfl,rfl,rfl⟩
 ·exact ⟨_,.int _,by show (decide (0≤18+K) && decide (18+K≤16))=false;rw [decide_eq_false (show ¬18+K≤16 by omega),Bool.and_false],rfl,rfl⟩
 ·exact ⟨_,.bl _,rfl,rfl,rfl⟩
 ·exact ⟨_,.non,rfl,rfl,rfl⟩
 ·exact ⟨_,.str _,rfl,rfl,rfl⟩
theorem zod (c:Int): ∃v,Sv v∧yN 1 16 v=false∧L3.plain v=true∧atI [V3.int 0,.int 17,.int (-1 - c / 4 % 100000000000000000000),.bl true,.non,.str ("3" :Str)] (c / 4 % 6)=some v:=by
 have h0:=Int.emod_nonneg (c / 4) (show (100000000000000000000:Int)≠0 by decide)
 generalize c / 4 % 100000000000000000000=K at*
 rcases six (c / 4 % 6) (by omega) with z | z | z | z | z | z <;> rw [z]
 ·exact ⟨_,.int _,rfl,rfl,rfl⟩
 ·exact ⟨_,.int _,rfl,rfl,rfl⟩
 ·exact ⟨_,.int _,by show (decide (1≤ -1 - K) && decide (-1 - K≤16))=false;rw [decide_eq_false (show ¬1≤ -1 - K by omega),Bool.false_and],rfl,rfl⟩
 ·exact ⟨_,.bl _,rfl,rfl,rfl⟩
 ·exact ⟨_,.non,rfl,rfl,rfl⟩
 ·exact ⟨_,.str _,rfl,rfl,rfl⟩
abbrev h1 (ms:List Int):H3:=[.tab,.lst ((zj ms).map zd),.lst []]
abbrev h2 (ms:List Int) (n:Nat):H3:=[.dead,.lst ((zj ms).map zd),.lst (zi n)]
theorem pl1 (ms:List Int):((h1 ms).set 0 .dead).all zP=true:=by
 show (zP .dead && (zP (.lst ((zj ms).map zd)) && (zP (.lst []) && true)))=true
 simp only [zP,zeh,zW,Bool.and_self]
theorem pl2 (ms:List Int) (n:Nat):(h2 ms n).all zP=true:=by
 show (zP .dead && (zP (.lst ((zj ms).map zd)) && (zP (.lst (zi n)) && true)))=true
 simp only [zP,zeh,zjz,Bool.and_self]
theorem pl3 (ms:List Int) (n:Nat):(h2 ms n++[C3.ins "Calendar" []]).all zP=true:=by
 show (zP .dead && (zP (.lst ((zj ms).map zd)) && (zP (.lst (zi n)) && (zP (.ins "Calendar" []) && true))))=true
 simp only [zP,zeh,zjz,zf2,Bool.and_self]
theorem zug {ms:List Int} (hM:Ms ms) {p:Nat} (hp:p < ms.length) {v:V3} (sv:Sv v) (hb:yN 0 16 v=false) (pv:L3.plain v=true) (rest:Int):f_law_made [.lst ((ms.map V3.int).take p++[v]++(ms.map V3.int).drop (p+1)),.loc 2,.int rest] (h1 ms)= .ok (.v .non) (h2 ms (p+1)):=by
 have hl:=hM.len
 have tl:(ms.take p).length=p:=by rw [List.length_take];omega
 have tk:(ms.map V3.int).take p=(ms.take p).map V3.int:=(List.map_take).symm
 have dk:(ms.map V3.int).drop (p+1)=(ms.drop (p+1)).map V3.int:=(List.map_drop).symm
 rw [tk,dk]
 refine zl6 rfl ?_ rfl (pl1 ms) ?_ (pl2 ms (p+1))
 ·rw [zdn,zdn,zd9,zd9];simp only [zW,pv,Bool.and_self]
 ·have:=zts (L:=(ms.take p).map V3.int++[v]++(ms.drop (p+1)).map V3.int) (a:=2) (h:=[.dead,.lst ((zj ms).map zd),.lst []]) (r:= .int rest) (v:=v) (ms:=ms.take p) rfl (fun m hm=>hM.one m (List.mem_of_mem_take hm)) (fun t m e=>by
   have ht:t < (ms.take p).length:=(List.getElem?_eq_some_iff.mp e).1
   rw [List.append_assoc,List.getElem?_append_left (by rw [List.length_map];exact ht),List.getElem?_map,e];rfl) (by
   rw [List.append_assoc,List.getElem?_append_right (by rw [List.length_map];omega),List.length_map,Nat.sub_self];rfl) sv hb (by
   rw [List.length_append,List.length_append,List.length_map,List.length_map,tl,List.length_drop,List.length_singleton];omega)
  rw [tl] at this
  exact this
theorem zpr {ms:List Int} (hM:Ms ms) {r:V3} (sv:Sv r) (pr:L3.plain r=true) (hn:16 < (zj ms).length∨yN 1 16 r=false):f_law_made [.lst (ms.map V3.int),.loc 2,r] (h1 ms)= .ok (.v .non) (h2 ms ms.length++[C3.ins "Calendar" []]):=by
 refine zl6 rfl (zd9 ms) pr (pl1 ms) ?_ (pl3 ms ms.length)
 rw [List.length_map]
 exact zsv (a:=2) (h:=[.dead,.lst ((zj ms).map zd),.lst []]) rfl hM sv hn
theorem zs2 {ms:List Int} (hM:Ms ms) {rest:Int} (hr:RwB (zj ms) rest):f_law_made [.lst (ms.map V3.int),.loc 2,.int rest] (h1 ms)= .ok (.m (calM (Cal.kform rest (zj ms)) rest)) (h2 ms ms.length):=by
 refine zqo rfl (zd9 ms) rfl (pl1 ms) ?_ ?_ (pl2 ms ms.length)
 ·rw [List.length_map]
  exact zor (a:=2) (h:=[.dead,.lst ((zj ms).map zd),.lst []]) rfl hM hr
 ·simp only [zeu,zP,zf2,L3.plain,zeh,Bool.and_self]
abbrev lS (ns ms:List Int) (r:V3) (c n:Int):S3:=[some (.v (.scr ns)),some (.v (.lst (ms.map V3.int))),some (.v r),some (.v (.int c)),some (.v (.loc 1)),some (.v (.int n)),some (.v (.loc 2)),none,none]
theorem zjx {s:S3} {h:H3} {xs ys:List V3} (hl:xs.length+ys.length≤sizeLine):zr s h (.x (.lst xs)) (.x (.lst ys))=some (.m (.lst (xs++ys))):=by
 unfold zr yB zhg oI zml oCat
 simp only [rdm,rdl,if_pos hl]
def lC:D3:=(sSeq (sFz 2) (sSeq (sFz 1) (sSeq (sSet 8 (eCall f_law_made (aCons (pV 1) (aCons (pV 6) (aCons (pV 2) aNil))))) (sSeq (sIf (tE (eOp ym (pV 6) (pE (eB yW (aCons (pV 5) aNil))))) (sRet (eC (.bl false))) sSkip) (sSeq (sIf (tOr3 (tE (eOp oGt (pE (eB bLen (aCons (pV 4) aNil))) (pE (eC (.int 16))))) (tE (eOp yh (pE (eOp zu (pV 3) (pE (eC (.int 4))))) (pE (eC (.int 2)))))) (sRet (eOp (oIsN false) (pV 8) (pE (eC .non)))) sSkip) (sSeq (sFz 1) (sSeq (sFz 2) (sSeq (sFz 4) (sSeq (sFz 8) (sSeq (sIf (tOr3 (tE (eOp (oIsN false) (pV 8) (pE (eC .non)))) (tNot3 (tE (eCall f_law_like (aCons (pV 8) (aCons (pV 4) (aCons (pV 2) (aCons (pV 1) aNil)))))))) (sRet (eC (.bl false))) sSkip) (sRet (eOp yh (pV 6) (pE (eB yW (aCons (pV 5) aNil)))))))))))))))
def lB:D3:=sSeq (sIf (tE (eOp yh (pE (eOp zu (pV 3) (pE (eC (.int 4))))) (pE (eC (.int 2))))) (sSet 2 (eOp zL (pE (eLst (aCons (pE (eC (.int 0))) (aCons (pE (eC (.int 17))) (aCons (pE (eOp oSub (pE (eNeg (pE (eC (.int 1))))) (pE (eOp zu (pE (eOp zN (pV 3) (pE (eC (.int 4))))) (pE (eOp oPow (pE (eC (.int 10))) (pE (eC (.int 20))))))))) (aCons (pE (eC (.bl true))) (aCons (pE (eC .non)) (aCons (pE (eC (.str ("3" :Str)))) aNil)))))))) (pE (eOp zu (pE (eOp zN (pV 3) (pE (eC (.int 4))))) (pE (eC (.int 6))))))) sSkip) lC
def lT:T3:=(tAnd3 (tE (eOp yh (pE (eOp zu (pV 3) (pE (eC (.int 4))))) (pE (eC (.int 3))))) (tE (eOp ym (pV 1) (pE (eLst aNil)))))
def lAb:D3:=(sSeq (sSet 5 (eOp zu (pE (eOp zN (pV 3) (pE (eC (.int 4))))) (pE (eB bLen (aCons (pV 1) aNil))))) (sSeq (sSet 7 (eOp zL (pE (eLst (aCons (pE (eC (.int 17))) (aCons (pE (eNeg (pE (eC (.int 1))))) (aCons (pE (eOp zr (pE (eC (.int 18))) (pE (eOp zu (pE (eOp zN (pV 3) (pE (eC (.int 4))))) (pE (eOp oPow (pE (eC (.int 10))) (pE (eC (.int 20))))))))) (aCons (pE (eC (.bl true))) (aCons (pE (eC .non)) (aCons (pE (eC (.str ("3" :Str)))) aNil)))))))) (pE (eOp zu (pE (eOp zN (pV 3) (pE (eC (.int 4))))) (pE (eC (.int 6))))))) (sSeq (sFz 2) (sSeq (sSet 8 (eCall f_law_made (aCons (pE (eOp zr (pE (eOp zr (pE (eSl (pV 1) poN (poS (pV 5)))) (pE (eLst (aCons (pV 7) aNil))))) (pE (eSl (pV 1) (poS (pE (eOp zr (pV 5) (pE (eC (.int 1)))))) poN)))) (aCons (pV 6) (aCons (pV 2) aNil))))) (sRet (eAnd (eOp (oIsN false) (pV 8) (pE (eC .non))) (eOp yh (pV 6) (pE (eB yW (aCons (pE (eOp zr (pV 5) (pE (eC (.int 1))))) aNil))))))))))
def lA:D3:=sSeq (sIf lT lAb sSkip) lB
theorem zt1 {ns ms:List Int} (hM:Ms ms) {rest c:Int} (hrest:1≤rest∧rest≤16) (h2c: ¬c % 4=2) (hm: ¬16 < (zj ms).length):Yes ((lC (lS ns ms (.int rest) c (ms.length:Int)) (h1 ms)).res):=by
 have hl:=hM.len
 unfold lC
 have lr:=fun s h=>zox s h ms.length (by omega)
 have hr:=zj3 hM hrest (by omega)
 have mk:=zs2 hM hr
 have ae:=fun s=>zgz (h:=h2 ms ms.length) (n:=ms.length) s rfl
 generalize hg:h2 ms ms.length=g at*
 have g1:g[1]? =some (.lst ((zj ms).map zd)):=by rw [←hg];rfl
 have hm: ¬(16:Int) < ((zj ms).length:Int):=by omega
 obtain ⟨h',⟨cc,eh⟩,lk⟩:=zrh hM hr (h:=g) (n:=1) g1
 have h2':h'[2]? =some (.lst (zi ms.length)):=by rw [eh,←hg];rfl
 generalize Cal.kform rest (zj ms)=kf at*
 have aq:=fun s=>zjm (h:=h') (n:=ms.length) s h2'
 generalize zi ms.length=NN at*
 generalize ((ms.length:Nat):Int)=N at*
 refine ⟨h',?_⟩
 (simp_arith [lS,h2c,mk,lr,ae,aq,g1,List.length_map,hm,oIsN,lk]) <;> rfl
theorem zr2 {ns ms:List Int} (hM:Ms ms) {rest c:Int} (hrest:1≤rest∧rest≤16) (h2c: ¬c % 4=2) (hm:16 < (zj ms).length):Yes ((lC (lS ns ms (.int rest) c (ms.length:Int)) (h1 ms)).res):=by
 have hl:=hM.len
 unfold lC
 have lr:=fun s h=>zox s h ms.length (by omega)
 have mk:=zpr hM (.int rest) rfl (.inl hm)
 have hm:(16:Int) < ((zj ms).length:Int):=by omega
 have ae:=fun s=>zgz (h:=h2 ms ms.length++[.ins "Calendar" []]) (n:=ms.length) s rfl
 generalize hg:h2 ms ms.length++[.ins "Calendar" []]=g at*
 have g1:g[1]? =some (.lst ((zj ms).map zd)):=by rw [←hg];rfl
 generalize zi ms.length=NN at*
 generalize ((ms.length:Nat):Int)=N at*
 refine ⟨g,?_⟩
 (simp_arith [lS,h2c,mk,lr,ae,g1,List.length_map,hm,oIsN]) <;> rfl
theorem zty {ns ms:List Int} (hM:Ms ms) {rest c:Int} (hrest:1≤rest∧rest≤16) {v:V3} (sv:Sv v) (hb:yN 1 16 v=false) (pv:L3.plain v=true) (h2c:c % 4=2):Yes ((lC (lS ns ms v c (ms.length:Int)) (h1 ms)).res):=by
 have hl:=hM.len
 unfold lC
 have lr:=fun s h=>zox s h ms.length (by omega)
 have mk:=zpr hM sv pv (.inr hb)
 have ae:=fun s=>zgz (h:=h2 ms ms.length++[.ins "Calendar" []]) (n:=ms.length) s rfl
 generalize hg:h2 ms ms.length++[.ins "Calendar" []]=g at*
 have g1:g[1]? =some (.lst ((zj ms).map zd)):=by rw [←hg];rfl
 generalize zi ms.length=NN at*
 generalize ((ms.length:Nat):Int)=N at*
 refine ⟨g,?_⟩
 by_cases hm:(16:Int) < ((zj ms).length:Int)
 ·(simp_arith [lS,h2c,mk,lr,ae,g1,List.length_map,hm,oIsN]) <;> rfl
 ·(simp_arith [lS,h2c,mk,lr,ae,g1,List.length_map,hm,oIsN]) <;> rfl
theorem zvh {ns ms:List Int} (hM:Ms ms) {rest c:Int} (hrest:1≤rest∧rest≤16):Yes ((lB (lS ns ms (.int rest) c (ms.length:Int)) (h1 ms)).res):=by
 have z6:6≤sizeLine:=by have:=yn;omega
 have hl:=hM.len
 unfold lB
 by_cases h2c:c % 4=2
 ·obtain ⟨v,sv,hb,pv,ea⟩:=zod c
  refine yo (s1:=lS ns ms v c (ms.length:Int)) (h1:=h1 ms) (by (simp_arith [lS,h2c,p20,z6,ea]) <;> rfl) ?_
  exact zty hM hrest sv hb pv h2c
 ·refine yo (s1:=lS ns ms (.int rest) c (ms.length:Int)) (h1:=h1 ms) (by (simp_arith [lS,h2c]) <;> rfl) ?_
  by_cases hm:16 < (zj ms).length
  ·exact zr2 hM hrest h2c hm
  ·exact zt1 hM hrest h2c hm
abbrev y9 (ns ms:List Int) (r:V3) (c n:Int) (x7 x8:Option Vl):S3:=[some (.v (.scr ns)),some (.v (.lst (ms.map V3.int))),some (.v r),some (.v (.int c)),some (.v (.loc 1)),some (.v (.int n)),some (.v (.loc 2)),x7,x8]
theorem set7 (ns ms:List Int) (r:V3) (c n:Int) (v:V3) (ea:atI [V3.int 17,.int (-1),.int (18+c / 4 % 100000000000000000000),.bl true,.non,.str ("3" :Str)] (c / 4 % 6)=some v) (h:H3):(sSet 7 (eOp zL (pE (eLst (aCons (pE (eC (.int 17))) (aCons (pE (eNeg (pE (eC (.int 1))))) (aCons (pE (eOp zr (pE (eC (.int 18))) (pE (eOp zu (pE (eOp zN (pV 3) (pE (eC (.int 4))))) (pE (eOp oPow (pE (eC (.int 10))) (pE (eC (.int 20))))))))) (aCons (pE (eC (.bl true))) (aCons (pE (eC .non)) (aCons (pE (eC (.str ("3" :Str)))) aNil)))))))) (pE (eOp zu (pE (eOp zN (pV 3) (pE (eC (.int 4))))) (pE (eC (.int 6))))))) (y9 ns ms r c n none none) h= .nx (y9 ns ms r c n (some (.v v)) none) h:=by
 have z6:6≤sizeLine:=by have:=yn;omega
 (simp_arith [y9,p20,z6,ea]) <;> rfl
theorem set5 (ns ms:List Int) (r:V3) (c n P:Int) (h:H3) (om: ∀(s:S3),zu s h (.x (.int (c / 4))) (.x (.int (ms.length:Int)))=some (.v (.int P))):(sSet 5 (eOp zu (pE (eOp zN (pV 3) (pE (eC (.int 4))))) (pE (eB bLen (aCons (pV 1) aNil))))) (lS ns ms r c n) h= .nx (y9 ns ms r c P none none) h:=by
 (simp_arith [lS,y9,List.length_map,om]) <;> rfl
theorem set8 (ns ms:List Int) (r:V3) (c P:Int) (v:V3) (h g:H3) {A B:List V3} (s1:z9 (ms.map V3.int) none (some P)=A) (s2:z9 (ms.map V3.int) (some (P+1)) none=B) (o1: ∀s:S3,zr s h (.x (.lst A)) (.x (.lst [v]))=some (.m (.lst (A++[v])))) (o2: ∀s:S3,zr s h (.x (.lst (A++[v]))) (.x (.lst B))=some (.m (.lst (A++[v]++B)))) (mk:f_law_made [.lst (A++[v]++B),.loc 2,r] h= .ok (.v .non) g):(sSet 8 (eCall f_law_made (aCons (pE (eOp zr (pE (eOp zr (pE (eSl (pV 1) poN (poS (pV 5)))) (pE (eLst (aCons (pV 7) aNil))))) (pE (eSl (pV 1) (poS (pE (eOp zr (pV 5) (pE (eC (.int 1)))))) poN)))) (aCons (pV 6) (aCons (pV 2) aNil))))) (y9 ns ms r c P (some (.v v)) none) h= .nx (y9 ns ms r c P (some (.v v)) (some (.v .non))) g:=by
 (simp_arith [y9,eSl,poN,poS,oSl,s1,s2,o1,o2,mk]) <;> rfl
theorem set9 (ns ms:List Int) (r:V3) (c P:Int) (v:V3) (g:H3) {NN:List V3} (lr: ∀(s:S3) (h:H3),yW s h [.x (.int (P+1))]=some (.m (.lst NN))) (ae: ∀s:S3,yh s g (.x (.loc 2)) (.x (.lst NN))=some (.v (.bl true))):(sRet (eAnd (eOp (oIsN false) (pV 8) (pE (eC .non))) (eOp yh (pV 6) (pE (eB yW (aCons (pE (eOp zr (pV 5) (pE (eC (.int 1))))) aNil)))))) (y9 ns ms r c P (some (.v v)) (some (.v .non))) g= .rt (.v (.bl true)) g:=by
 (simp_arith [y9,lr,ae]) <;> rfl
theorem setT (ns ms:List Int) (r:V3) (c n:Int) (h:H3) (h3:c % 4=3) (ne: ∀(s:S3) (h:H3),ym s h (.x (.lst (ms.map V3.int))) (.x (.lst []))=some (.v (.bl !(ms.map V3.int).isEmpty))) (ie:(ms.map V3.int).isEmpty=false):lT (lS ns ms r c n) h= .ok true h:=by
 unfold lT;(simp_arith [lS,h3,ne,ie]) <;> rfl
theorem zu6 {ns ms:List Int} (hM:Ms ms) {rest c:Int} (hrest:1≤rest∧rest≤16) (h3:c % 4=3∧ms≠[]):Yes ((lA (lS ns ms (.int rest) c (ms.length:Int)) (h1 ms)).res):=by
 have z6:6≤sizeLine:=by have:=yn;omega
 have hl:=hM.len
 have ne: ∀(s:S3) (h:H3),ym s h (.x (.lst (ms.map V3.int))) (.x (.lst []))=some (.v (.bl !(ms.map V3.int).isEmpty)):=fun s h=>zg7 zpa
 obtain ⟨h3,hne⟩:=h3
 have ie:(ms.map V3.int).isEmpty=false:=by cases ms with | nil=>exact absurd rfl hne | cons x r=>rfl
 have hL0:0 < ms.length:=List.length_pos_iff.mpr hne
 have hpos:(0:Int) < (ms.length:Int):=by omega
 have q0:=Int.emod_nonneg (c / 4) (show (ms.length:Int)≠0 by omega)
 have q1:=Int.emod_lt_of_pos (c / 4) hpos
 obtain ⟨p,ep⟩: ∃p:Nat,c / 4 % (ms.length:Int)=(p:Int):=⟨(c / 4 % (ms.length:Int)).toNat,by omega⟩
 have hp:p < ms.length:=by omega
 obtain ⟨v,sv,hb,pv,ea⟩:=zo3 c
 have mk:=zug hM hp sv hb pv rest
 have s1:=zq4 (ms.map V3.int) p
 have s2:=zlq (ms.map V3.int) (p+1)
 have o1:=fun (s:S3)=>zjx (s:=s) (h:=h1 ms) (xs:=(ms.map V3.int).take p) (ys:=[v]) (by have:=yn;rw [List.length_take,List.length_singleton,List.length_map];omega)
 have o2:=fun (s:S3)=>zjx (s:=s) (h:=h1 ms) (xs:=(ms.map V3.int).take p++[v]) (ys:=(ms.map V3.int).drop (p+1)) (by have:=yn;rw [List.length_append,List.length_take,List.length_singleton,List.length_map,List.length_drop,List.length_map];omega)
 have lr:=fun s h=>zox s h (p+1) (by omega)
 have ae:=fun s=>zjm (h:=h2 ms (p+1)) (n:=p+1) s rfl
 have ec:(((p+1:Nat)):Int)=(p:Int)+1:=by omega
 rw [ec] at s2 lr
 generalize h2 ms (p+1)=g at*
 generalize (zi (p+1))=NN at*
 generalize (ms.map V3.int).take p=A at*
 generalize (ms.map V3.int).drop (p+1)=B at*
 have om: ∀(s:S3) (h:H3),zu s h (.x (.int (c / 4))) (.x (.int (ms.length:Int)))=some (.v (.int (p:Int))):=fun s h=>by rw [oMod_int hpos,ep]
 generalize ((p:Nat):Int)=P at*
 refine ⟨g,?_⟩
 have et:=setT ns ms (.int rest) c (ms.length:Int) (h1 ms) h3 ne ie
 have eb:lAb (lS ns ms (.int rest) c (ms.length:Int)) (h1 ms)= .rt (.v (.bl true)) g:=by
  unfold lAb
  have e7:=set7 ns ms (.int rest) c P v ea (h1 ms)
  have e5:=set5 ns ms (.int rest) c (ms.length:Int) P (h1 ms) (fun s=>om s (h1 ms))
  have e8:=set8 ns ms (.int rest) c P v (h1 ms) g s1 s2 o1 o2 mk
  have e9:=set9 ns ms (.int rest) c P v g lr ae
  have e6:sFz 2 (y9 ns ms (.int rest) c P (some (.v v)) none) (h1 ms)= .nx (y9 ns ms (.int rest) c P (some (.v v)) none) (h1 ms):=rfl
  exact (ze0 e5).trans ((ze0 e7).trans ((ze0 e6).trans ((ze0 e8).trans e9)))
 have ea:sIf lT lAb sSkip (lS ns ms (.int rest) c (ms.length:Int)) (h1 ms)= .rt (.v (.bl true)) g:=by
  unfold sIf;rw [et];exact eb
 unfold lA sSeq
 rw [ea]
 rfl
theorem zuv {ns ms:List Int} (hM:Ms ms) {rest c:Int} (hrest:1≤rest∧rest≤16):Yes ((lA (lS ns ms (.int rest) c (ms.length:Int)) (h1 ms)).res):=by
 have z6:6≤sizeLine:=by have:=yn;omega
 have hl:=hM.len
 have ne: ∀(s:S3) (h:H3),ym s h (.x (.lst (ms.map V3.int))) (.x (.lst []))=some (.v (.bl !(ms.map V3.int).isEmpty)):=fun s h=>zg7 zpa
 by_cases h3:c % 4=3∧ms≠[]
 ·exact zu6 hM hrest h3
 ·unfold lA lT
  have hcond:(decide (c % 4=3) && !(ms.map V3.int).isEmpty)=false:=by
   by_cases h4:c % 4=3
   ·have:ms=[]:=Decidable.byContradiction fun z=>h3 ⟨h4,z⟩
    subst this;rw [decide_eq_true h4];rfl
   ·rw [decide_eq_false h4];rfl
  refine yo (s1:=lS ns ms (.int rest) c (ms.length:Int)) (h1:=h1 ms) (by
   by_cases h4:c % 4=3
   ·rw [decide_eq_true h4,Bool.true_and] at hcond
    (simp_arith [lS,h4,ne,hcond]) <;> rfl
   ·(simp_arith [lS,h4]) <;> rfl) ?_
  exact zvh hM hrest
theorem law_yes: ∀ns:List Int,ns.length≤63→∃h',f_law [.scr ns] [.tab]= .ok (.v (.bl true)) h':=by
 intro ns _
 show Yes _
 obtain ⟨ms,hM,es⟩:=zn7 ns [.tab]
 have er:f_law_runs [.lst (ms.map V3.int)] [.tab]= .ok (.v (.loc 1)) [.tab,.lst ((zj ms).map zd)]:=zhc hM [.tab]
 have k1:=zu9 ns [.tab]
 have k2:=zuq ns [.tab]
 have hl:=hM.len
 have z6:6≤sizeLine:=by have:=yn;omega
 unfold f_law zq0
 refine zha rfl ?_
 generalize hc:cell ns 2=c at*
 generalize hz:cell ns 1=z at*
 refine yo (s1:=[some (.v (.scr ns)),some (.m (.lst (ms.map V3.int))),none,none,none,none,none,none,none]) (h1:=[.tab]) (by (simp_arith [es]) <;> rfl) ?_
 refine yo (s1:=[some (.v (.scr ns)),some (.m (.lst (ms.map V3.int))),some (.v (.int (1+z % 16))),none,none,none,none,none,none]) (h1:=[.tab]) (by (simp_arith [k1]) <;> rfl) ?_
 have hrest:1≤1+z % 16∧1+z % 16≤16:=by omega
 generalize 1+z % 16=rest at*
 refine yo (s1:=[some (.v (.scr ns)),some (.m (.lst (ms.map V3.int))),some (.v (.int rest)),some (.v (.int c)),none,none,none,none,none]) (h1:=[.tab]) (by (simp_arith [k2]) <;> rfl) ?_
 refine yo (s1:=[some (.v (.scr ns)),some (.v (.lst (ms.map V3.int))),some (.v (.int rest)),some (.v (.int c)),none,none,none,none,none]) (h1:=[.tab]) (by (simp_arith []) <;> rfl) ?_
 refine yo (s1:=[some (.v (.scr ns)),some (.v (.lst (ms.map V3.int))),some (.v (.int rest)),some (.v (.int c)),some (.v (.loc 1)),none,none,none,none]) (h1:=[.tab,.lst ((zj ms).map zd)]) (by (simp_arith [er]) <;> rfl) ?_
 refine yo (s1:=[some (.v (.scr ns)),some (.v (.lst (ms.map V3.int))),some (.v (.int rest)),some (.v (.int c)),some (.v (.loc 1)),some (.v (.int (ms.length:Int))),none,none,none]) (h1:=[.tab,.lst ((zj ms).map zd)]) (by (simp_arith [List.length_map]) <;> rfl) ?_
 refine yo (s1:=lS ns ms (.int rest) c (ms.length:Int)) (h1:=h1 ms) (by (simp_arith [eGl]) <;> rfl) ?_
 exact zuv hM hrest
end My
namespace My
open PySem PySem.Spec PyProof.Rows L2 L3
theorem law_true: ∀ns:List Int,ns.length≤63→∃h',f_law [.scr ns] [.tab]= .ok (.v (.bl true)) h':=law_yes
theorem txt {K:PySem.W.Frag} {mg:Str→Option Value} {h:Heap} (X:K.In h) (G:h.Ns mainGlobals mg) (S:L4.seenK ask K=L4.good PySem.Challenge.pw_dueyard_k05_a_calendar_asked ask) {c T0:Addr} (ht:PySem.W.tabIn K y0=some (c,T0)): ∃T:Txt K mg,T.tcd=c∧T.ttb=T0:=by
 obtain ⟨f0,d0,a0,F0⟩:=L4.def_at S 0 rfl
 obtain ⟨f1,d1,a1,F1⟩:=L4.def_at S 1 rfl
 obtain ⟨f2,d2,a2,F2⟩:=L4.def_at S 2 rfl
 obtain ⟨f3,d3,a3,F3⟩:=L4.def_at S 3 rfl
 obtain ⟨f4,d4,a4,F4⟩:=L4.def_at S 4 rfl
 obtain ⟨f5,d5,a5,F5⟩:=L4.def_at S 5 rfl
 obtain ⟨f6,d6,a6,F6⟩:=L4.def_at S 6 rfl
 obtain ⟨f7,d7,a7,F7⟩:=L4.def_at S 7 rfl
 obtain ⟨f8,d8,a8,F8⟩:=L4.def_at S 8 rfl
 obtain ⟨f9,d9,a9,F9⟩:=L4.def_at S 9 rfl
 obtain ⟨f10,d10,a10,F10⟩:=L4.def_at S 10 rfl
 obtain ⟨f11,d11,a11,F11⟩:=L4.def_at S 11 rfl
 obtain ⟨f12,d12,a12,F12⟩:=L4.def_at S 12 rfl
 obtain ⟨f13,d13,a13,F13⟩:=L4.def_at S 13 rfl
 obtain ⟨f14,d14,a14,F14⟩:=L4.def_at S 14 rfl
 obtain ⟨f15,d15,a15,F15⟩:=L4.def_at S 15 rfl
 obtain ⟨f16,d16,a16,F16⟩:=L4.def_at S 16 rfl
 obtain ⟨f17,d17,a17,F17⟩:=L4.def_at S 17 rfl
 obtain ⟨f18,d18,a18,F18⟩:=L4.def_at S 18 rfl
 obtain ⟨f19,d19,a19,F19⟩:=L4.def_at S 19 rfl
 obtain ⟨C0,c0⟩:=L4.cls_at S 0 rfl
 obtain ⟨g0,e0,A0,M0,I0⟩:=c0.meth 0 _ rfl
 obtain ⟨g1,e1,A1,M1,I1⟩:=c0.meth 1 _ rfl
 obtain ⟨g2,e2,A2,M2,I2⟩:=c0.meth 2 _ rfl
 obtain ⟨g3,e3,A3,M3,I3⟩:=c0.meth 3 _ rfl
 obtain ⟨g4,e4,A4,M4,I4⟩:=c0.meth 4 _ rfl
 obtain ⟨t0,v0⟩:=L4.int_at S 0 rfl
 obtain ⟨t1,v1⟩:=L4.int_at S 1 rfl
 obtain ⟨t2,v2⟩:=L4.int_at S 2 rfl
 obtain ⟨t3,v3⟩:=L4.int_at S 3 rfl
 obtain ⟨E0,h0,x0⟩:=L4.exc_at S 0 rfl
 exact ⟨⟨f0,d0,⟨F0,L4.b2 F0 fun _ _ _ _ _ _ _ _=>rfl,PySem.W.mg_of X G a0⟩,f1,d1,⟨F1,L4.b2 F1 fun _ _ _ _ _ _ _ _=>rfl,PySem.W.mg_of X G a1⟩,f2,d2,⟨F2,L4.b1 F2 fun _ _ _ _ _ _ _=>rfl,PySem.W.mg_of X G a2⟩,f3,d3,⟨F3,L4.b1 F3 fun _ _ _ _ _ _ _=>rfl,PySem.W.mg_of X G a3⟩,f4,d4,⟨F4,L4.b1 F4 fun _ _ _ _ _ _ _=>rfl,PySem.W.mg_of X G a4⟩,f5,d5,⟨F5,L4.b2 F5 fun _ _ _ _ _ _ _ _=>rfl,PySem.W.mg_of X G a5⟩,f6,d6,⟨F6,L4.b1 F6 fun _ _ _ _ _ _ _=>rfl,PySem.W.mg_of X G a6⟩,f7,d7,⟨F7,L4.b3 F7 fun _ _ _ _ _ _ _ _ _=>rfl,PySem.W.mg_of X G a7⟩,f8,d8,⟨F8,L4.b1 F8 fun _ _ _ _ _ _ _=>rfl,PySem.W.mg_of X G a8⟩,f9,d9,⟨F9,L4.b1 F9 fun _ _ _ _ _ _ _=>rfl,PySem.W.mg_of X G a9⟩,f10,d10,⟨F10,L4.b1 F10 fun _ _ _ _ _ _ _=>rfl,PySem.W.mg_of X G a10⟩,f11,d11,⟨F11,L4.b1 F11 fun _ _ _ _ _ _ _=>rfl,PySem.W.mg_of X G a11⟩,f12,d12,⟨F12,L4.b3 F12 fun _ _ _ _ _ _ _ _ _=>rfl,PySem.W.mg_of X G a12⟩,f13,d13,⟨F13,L4.b2 F13 fun _ _ _ _ _ _ _ _=>rfl,PySem.W.mg_of X G a13⟩,f14,d14,⟨F14,L4.b3 F14 fun _ _ _ _ _ _ _ _ _=>rfl,PySem.W.mg_of X G a14⟩,f15,d15,⟨F15,L4.b2 F15 fun _ _ _ _ _ _ _ _=>rfl,PySem.W.mg_of X G a15⟩,f16,d16,⟨F16,L4.b4 F16 fun _ _ _ _ _ _ _ _ _ _=>rfl,PySem.W.mg_of X G a16⟩,f17,d17,⟨F17,L4.b2 F17 fun _ _ _ _ _ _ _ _=>rfl,PySem.W.mg_of X G a17⟩,f18,d18,⟨F18,L4.b4 F18 fun _ _ _ _ _ _ _ _ _ _=>rfl,PySem.W.mg_of X G a18⟩,f19,d19,⟨F19,L4.b1 F19 fun _ _ _ _ _ _ _=>rfl,PySem.W.mg_of X G a19⟩,C0,c0.cls,PySem.W.mg_of X G c0.g,g0,e0,⟨M0,L4.b3 M0 fun _ _ _ _ _ _ _ _ _=>rfl⟩,g1,e1,⟨M1,L4.b3 M1 fun _ _ _ _ _ _ _ _ _=>rfl⟩,⟨A1,I1,M1.kp⟩,g2,e2,⟨M2,L4.b2 M2 fun _ _ _ _ _ _ _ _=>rfl⟩,⟨A2,I2,M2.kp⟩,g3,e3,⟨M3,L4.b1 M3 fun _ _ _ _ _ _ _=>rfl⟩,⟨A3,I3,M3.kp⟩,g4,e4,⟨M4,L4.b1 M4 fun _ _ _ _ _ _ _=>rfl⟩,⟨A4,I4,M4.kp⟩,⟨c0.makes,A0,I0,c0.kp⟩,c0.fld 0 _ rfl,c0.fld 1 _ rfl,E0,PySem.W.mg_of X G h0,⟨(x0 rfl).1,PySem.W.mg_of X G h0⟩,(x0 rfl).2,(L4.tab_at S 0 rfl h0 h0).1,(L4.tab_at S 0 rfl h0 h0).2,PySem.W.mg_none_of X G (L4.bare_at S 0 rfl),PySem.W.mg_none_of X G (L4.bare_at S 1 rfl),PySem.W.mg_none_of X G (L4.bare_at S 2 rfl),PySem.W.mg_none_of X G (L4.bare_at S 3 rfl),PySem.W.mg_none_of X G (L4.bare_at S 4 rfl),PySem.W.mg_none_of X G (L4.bare_at S 5 rfl),PySem.W.mg_none_of X G (L4.bare_at S 6 rfl),PySem.W.mg_none_of X G (L4.bare_at S 7 rfl),PySem.W.mg_none_of X G (L4.bare_at S 8 rfl),PySem.W.mg_none_of X G (L4.bare_at S 9 rfl),PySem.W.mg_none_of X G (L4.bare_at S 10 rfl),PySem.W.mg_none_of X G (L4.bare_at S 11 rfl),t0,PySem.W.mg_of X G v0,t1,PySem.W.mg_of X G v1,t2,PySem.W.mg_of X G v2,t3,PySem.W.mg_of X G v3,c,T0,(by obtain ⟨oc,od,kV,doc,pm,an,cdv,ct,osl,e,lk,_⟩:=F13.ex;exact PySem.W.law_code X G ht (PySem.W.mg_of X G a13) (X _ _ lk) rfl)⟩,rfl,rfl⟩
def d_law:PySem.DefRec:=⟨"law",zcu (zY 31),yX (zY 31),zw (zY 31),⟨157,0,178,47⟩⟩
end My
open PySem PySem.W PyProof.Rows
set_option maxRecDepth 100000 in
set_option maxHeartbeats 0 in
theorem PySem.Challenge.cw_dueyard_k05_a_calendar_asked_holds : PySem.Challenge.rw_dueyard_k05_a_calendar_asked.Holds := by
 w_on;o_law
 refine PySem.W.holds_open (q:=L4.lawView My.ask PySem.Challenge.pw_dueyard_k05_a_calendar_asked) (loose:=L4.looseOf PySem.Challenge.pw_dueyard_k05_a_calendar_asked) (Xt:=fun _=>true) (XP:=fun _ _=>True) (YP:=fun _ h=>L4.YT My.ask PySem.Challenge.pw_dueyard_k05_a_calendar_asked My.y0 h) (d:=My.d_law) (kwd:=[]) (N:=20000) (L4.left_one (good:=(L4.good PySem.Challenge.pw_dueyard_k05_a_calendar_asked My.ask,true)) (by kernel_rfl) (by decide) (fun _=>rfl) My.one) (fun w s e=>L4.seenT_ok w s e) (fun w h h'=>L4.seenT_keeps w h h') (fun _ _=>trivial) (fun _ _ _ _ _=>trivial) (by kernel_rfl) (by kernel_rfl) rfl (fun _ _=>recFacts_nil rfl) rfl (by assumption) (by decide+kernel) ⟨rfl,rfl,rfl,rfl,rfl,by decide+kernel⟩ ?hw ?hc
 case hw=>w_witness2
 case hc=>
  refine L4.walk_oneT (y:=My.y0) (l:=PySem.Challenge.rw_dueyard_k05_a_calendar_asked) (n:=63) (k:=10) (x:="_law_script") (CX:=fun w=>L2.XT PySem.Challenge.rw_dueyard_k05_a_calendar_asked.prog w) (sp:=L3.spLT) rfl (by decide) rfl ⟨rfl,by decide,by decide⟩ ?F (fun _ _ _ a ns hl hO hS=>⟨a,ns,rfl,hl,hS,hO,fun _=>rfl⟩) fun _ _ _ _ _ z=>L3.noX z
  intro w mg fa c T0 h K KX G S ht hm hmg
  obtain ⟨T,ec,eT⟩:=My.txt KX G S ht
  subst ec;subst eT
  have e:=hmg.symm.trans T.d_law.g
  cases e
  exact ⟨T.fd_law,L4.binds_law T.d_law.F fun _ _ _ _ _ _ _=>rfl,fun base _ _ hC hB=>(My.G_law (P:=PySem.Challenge.rw_dueyard_k05_a_calendar_asked.prog) (w:=w) (base:=base) T hC hB hm).imp (sp':=L3.spLT K T.ttb) fun vs H Q E h=>L3.spLT_of (κ:=My.kx T (T.ttb,none)) My.law_true h⟩
