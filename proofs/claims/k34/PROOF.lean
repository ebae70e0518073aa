import PyProof.Rows.All
import Wide.All
import OpenK.AllK
import Wide.FinOn
import Lean
import PyProof.EqAt
import PyProof.EqKinds
import PyProof.TupleCall
import KE.KSortTup
import KE.KUnpack
import PyProof.DictRoadsH
import PyProof.EnumFor
import PyProof.EnumStmt
import PyProof.EnumMake
import PyProof.MaxThree
import KE.KDictList
import KE.KRevIter
import PyProof.ExcBaseAll.ValueError
import PyProof.Rows.Catch
import PyProof.NsDelKeeps
import PyProof.NeKinds
import KE.KxText
import PyProof.WalkInts
import PyProof.SeqI3
import PyProof.DictIter
import PyProof.DictWalks
import PyProof.Calls
import PySem.Challenge.RW_dueyard_k34_whole_laid_plans_walked
universe u
noncomputable section
theorem zy {α:Type u} {l:List α} {i:Nat} (h:i<l.length):l[i]?=some l[i]:=List.getElem?_eq_getElem h
theorem zc {a b:Prop} (h:a) (k:b):a∧b:=⟨h,k⟩
set_option Elab.async false
set_option compiler.extract_closed false
set_option bootstrap.genMatcherCode false
set_option genSizeOfSpec false
set_option genSizeOf false
local macro_rules | `(tactic|omega)=>`(tactic|first|assumption|lia|omega (config:={}))
set_option linter.all false
set_option maxRecDepth 100000
namespace L2
open PySem PySem.Spec PyProof.Rows
abbrev zq:=Sum Int Str
noncomputable def zh5:zq→Value→Bool
 | .inl k,v=>Value.isInt k v
 | .inr x,v=>Value.isStrOf x v
def keyH (w:World):zq→Int
 | .inl k=>hashInt k
 | .inr x=>hashStr w x
theorem qR: ∀{k:zq} {v:Value},zh5 k v=true→(∃i t,k=Sum.inl i∧v=Value.int i t)∨(∃x t,k=Sum.inr x∧v=Value.str x t)
 | .inl i,v,h=>by
  obtain ⟨t,e⟩:=Value.isInt_shape (k:=i) (v:=v) h
  exact .inl ⟨i,t,rfl,e⟩
 | .inr x,v,h=>by
  obtain ⟨t,e⟩:=Value.isStrOf_shape (x:=x) (v:=v) h
  exact .inr ⟨x,t,rfl,e⟩
theorem zqc (i:Int) (t:Tok):zh5 (.inl i) (.int i t)=true:=by simp [zh5,Value.isInt]
theorem zo6 (x:Str) (t:Tok):zh5 (.inr x) (.str x t)=true:=by simp [zh5,Value.isStrOf]
theorem zwz (a b:Int):decide ((Sum.inl a:zq)=Sum.inl b)=(a==b):=by
 by_cases e:a=b
 ·subst e;simp
 ·have h: ¬(Sum.inl a:zq)=Sum.inl b:=fun q=>e (Sum.inl.inj q)
  rw [decide_eq_false h]
  exact (beq_eq_false_iff_ne.mpr e).symm
theorem zyu (a b:Str):decide ((Sum.inr a:zq)=Sum.inr b)=decide (a=b):=by
 by_cases e:a=b
 ·subst e;simp
 ·have h: ¬(Sum.inr a:zq)=Sum.inr b:=fun q=>e (Sum.inr.inj q)
  rw [decide_eq_false h,decide_eq_false e]
theorem zv3 (a:Int) (b:Str):decide ((Sum.inl a:zq)=Sum.inr b)=false:=decide_eq_false (fun q=>nomatch q)
theorem zw9 (a:Str) (b:Int):decide ((Sum.inr a:zq)=Sum.inl b)=false:=decide_eq_false (fun q=>nomatch q)
def yy (prog:Program) (w:World):PySem.KeyKind prog w zq where
 is:=zh5
 hash:=keyH w
 inj:=fun v a b ha hb=>by
  rcases qR ha with ⟨i,t,rfl,rfl⟩ | ⟨x,t,rfl,rfl⟩
  ·rcases qR hb with ⟨j,u,rfl,e⟩ | ⟨y,u,rfl,e⟩
   ·injection e with e1 _;rw [e1]
   ·exact nomatch e
  ·rcases qR hb with ⟨j,u,rfl,e⟩ | ⟨y,u,rfl,e⟩
   ·exact nomatch e
   ·injection e with e1 _;rw [e1]
 byValue:=fun k v h=>by
  rcases qR h with ⟨i,t,rfl,rfl⟩ | ⟨x,t,rfl,rfl⟩ <;> rfl
 pyHash:=fun hv h=>by
  rcases qR hv with ⟨i,t,rfl,rfl⟩ | ⟨x,t,rfl,rfl⟩
  ·exact wpAny_pyHash_int h
  ·exact wpAny_pyHash_str h
 eqBool:=fun hu hv h=>by
  rcases qR hu with ⟨i,t,rfl,rfl⟩ | ⟨x,t,rfl,rfl⟩
  ·rcases qR hv with ⟨j,u,rfl,rfl⟩ | ⟨y,u,rfl,rfl⟩
   ·rw [zwz] at h;exact wpAny_eqBool_int h
   ·rw [zv3] at h;exact SeqAt.EqAt.int_str i t y u _ _ _ _ h
  ·rcases qR hv with ⟨j,u,rfl,rfl⟩ | ⟨y,u,rfl,rfl⟩
   ·rw [zw9] at h;exact SeqAt.EqAt.str_int x t j u _ _ _ _ h
   ·rw [zyu] at h;exact wpAny_eqBool_str h
 «strs» :=fun k x t v h=>by
  rcases qR h with ⟨i,u,rfl,e⟩ | ⟨y,u,rfl,e⟩
  ·exact nomatch e
  ·injection e with e1 _
   subst e1
   cases v <;> rfl
theorem zke (prog:Program) (w:World) (i:Int) (t:Tok):(yy prog w).is (.inl i) (.int i t)=true:=zqc i t
theorem zkp (prog:Program) (w:World) (x:Str) (t:Tok):(yy prog w).is (.inr x) (.str x t)=true:=zo6 x t
inductive V where
 | non | bl (b:Bool) | int (i:Int) | str (x:Str) | byt (b:Array UInt8) | flt (b:UInt64) | ref (a:Addr) | ty (n:String)
 deriving DecidableEq
def RelV:V→Value→Prop
 | .non,u=>u=Value.none
 | .bl b,u=>u=Value.bool b
 | .int i,u=> ∃t,u=Value.int i t
 | .str x,u=> ∃t,u=Value.str x t
 | .byt b,u=> ∃t,u=Value.bytes b t
 | .flt b,u=> ∃t,u=Value.float b t
 | .ref a,u=>u=Value.ref a
 | .ty n,u=>u=Value.type n
abbrev Vals:List V→List Value→Prop:=Paired RelV
theorem Vals.length {xs:List V} {us:List Value} (r:Vals xs us):xs.length=us.length:=Paired.length r
theorem Vals.get: ∀{xs:List V} {us:List Value} {i:Nat} {x:V},Vals xs us→xs[i]? =some x→∃u,us[i]? =some u∧RelV x u
 | _,_,_,_,.nil,e=>by simp at e
 | _,_,0,_,.cons r _,e=>by simp at e;subst e;exact ⟨_,rfl,r⟩
 | _,_,i+1,x,.cons _ t,e=>by
  obtain ⟨u,h1,h2⟩:=Vals.get (i:=i) (x:=x) t (by simpa using e)
  exact ⟨u,by simpa using h1,h2⟩
theorem Vals.set {x:V} {u:Value} (r:RelV x u): ∀{xs:List V} {us:List Value} (i:Nat),Vals xs us→Vals (xs.set i x) (us.set i u)
 | _,_,_,.nil=> .nil
 | _,_,0,.cons _ t=> .cons r t
 | _,_,i+1,.cons q t=> .cons q (Vals.set r i t)
theorem Vals.append: ∀{xs ys:List V} {us ws:List Value},Vals xs us→Vals ys ws→Vals (xs++ys) (us++ws)
 | _,_,_,_,.nil,s=>s
 | _,_,_,_,.cons r t,s=> .cons r (Vals.append t s)
def RelO:Option V→Option Value→Prop
 | some v,some u=>RelV v u
 | none,none=>True
 | _,_=>False
def KV {κ:Type}:List (κ×V)→List (κ×Value)→Prop:=Paired fun (p:κ×V) (q:κ×Value)=>p.1=q.1∧RelV p.2 q.2
def kV:zq→V
 | .inl i=> .int i
 | .inr x=> .str x
inductive MK where
 | one (k:zq)
 | tup (ks:List zq)
 deriving DecidableEq
def MK.hash (P:Program) (w:World):MK→Int
 | .one k=>(yy P w).hash k
 | .tup ks=>tupleKeyHash (yy P w) ks
def yw (P:Program) (w:World) (x:MK×Value×Value):DictEntry:=⟨x.1.hash P w,x.2.1,x.2.2⟩
inductive HO where
 | lst (xs:List V)
 | tup (xs:List V)
 | dK (kvs:List (zq×V)) | dT (kvs:List (MK×V))
 | set (S:Int→Bool) (n:Nat)
 | ins (C dx:Addr) (fs:List (Str×V))
 | own (x:Addr)
 | xd (fs:List (Str×V))
 | met (f x:Addr)
 | rng (lo hi:Int)
 | frz (o:Obj) (u:HO)
 | tbl (ps:Array Value)
 | ext (φ:Heap→Prop)
abbrev Hp:=Addr→Option HO
def KyV (H:Hp):MK→Value→Prop
 | .one k,u=>RelV (kV k) u
 | .tup ks,u=> ∃b,u= .ref b∧H b=some (.tup (ks.map kV))
theorem KyV.mono {H H':Hp} (ht: ∀b xs,H b=some (.tup xs)→H' b=some (.tup xs)): ∀{k:MK} {u:Value},KyV H k u→KyV H' k u
 | .one _,_,h=>h
 | .tup _,_,⟨b,e,q⟩=>⟨b,e,ht _ _ q⟩
noncomputable def zj (H:Hp) (a:Addr) (o:HO):Hp:=fun b=>if b=a then some o else H b
theorem yD {H:Hp} {a:Addr} {o:HO}:zj H a o a=some o:=by unfold zj;rw [if_pos rfl]
theorem zR {H:Hp} {a b:Addr} {o:HO} (h:b≠a):zj H a o b=H b:=by unfold zj;rw [if_neg h]
theorem zy7 {H:Hp} {a b:Addr} {o u:HO} (h:H a=some o) (h':H b=some u) (d:o≠u):a≠b:=by
 intro e;subst e;rw [h] at h';exact d (Option.some.inj h')
theorem y0 {H:Hp} {a b:Addr} {o:HO} (h:H a=some o) (h':H b=none):a≠b:=by
 intro e;subst e;rw [h] at h';cases h'
section
variable (P:Program) (w:World)
def ObjOk (H:Hp) (h:Heap) (a:Addr):HO→Prop
 | .lst xs=>xs.length≤sizeLine∧∃(its:List Value) (n:Nat),Vals xs its∧h.get? a=some {cls:= .type "list",data:= .seq its.toArray n}
 | .tup xs=>xs.length≤sizeLine∧∃its:List Value,Vals xs its∧IsTup h a its.toArray
 | .dK kvs=>kvs.length≤sizeLine∧(a==sysModules)=false∧∃vs,KV kvs vs∧h.DictOf (yy P w) a vs
 | .dT kvs=>kvs.length≤sizeLine∧(a==sysModules)=false∧∃xs:List (MK×Value×Value),Paired (fun (p:MK×V) (q:MK×Value×Value)=>p.1=q.1∧KyV H p.1 q.2.1∧RelV p.2 q.2.2) kvs xs∧
  ∃o es ep,h.get? a=some o∧o.ExactDict∧o.data= .dict es ep∧es.toList=xs.map (yw P w)∧(xs.map (·.1)).Nodup∧ep=xs.length
 | .set S n=>h.SetOf (intKind P w) a S n
 | .ins C dx fs=>H dx=some (.own a)∧fs.length≤1000∧dx≠a∧h.get? a=some (PySem.W.instObj C dx)∧
  ∃mA,h.Ns1 dx mA∧(∀f,RelO (fs.lookup f) (mA f))∧PySem.Within mA (fs.map (·.1))
 | .own _=> ∃o,h.get? a=some o
 | .xd fs=> ∃mA,h.Ns1 a mA∧∀f,RelO (fs.lookup f) (mA f)
 | .rng lo hi=> ∃t u v,h.get? a=some {cls:= .type "range",data:= .fields #[.int lo t,.int hi u,.int 1 v]}
 | .frz o u=>h.get? a=some o∧ObjOk H h a u
 | .tbl ps=>h.get? a=some {cls:= .none,data:= .fields ps}
 | .met f x=>h.get? a=some (PySem.W.methodObj (.ref f) (.ref x))
 | .ext φ=>φ h∧(∃o,h.get? a=some o)∧∀h1 h2:Heap,φ h1→(∀o,h1.get? a=some o→h2.get? a=some o)→φ h2
def HOk (H:Hp) (h:Heap):Prop:=∀a o,H a=some o→ObjOk P w H h a o
end
section
variable {P:Program} {w:World} {H H':Hp} {h h':Heap} {a:Addr} {o:HO}
theorem ObjOk.lt (x:ObjOk P w H h a o):a < h.objs.size:=by
 cases o with
 | lst xs=>obtain ⟨_,_,_,_,e⟩:=x;exact Heap.lt_size e
 | tup xs=>obtain ⟨_,_,_,p⟩:=x;exact p.lt
 | dK kvs=>obtain ⟨_,_,_,_,o,_,_,e,_⟩:=x;exact Heap.lt_size e
 | dT kvs=>obtain ⟨_,_,_,_,o,_,_,e,_⟩:=x;exact Heap.lt_size e
 | set S n=>obtain ⟨o,_,_,_,e,_⟩:=x;exact Heap.lt_size e
 | ins C dx fs=>obtain ⟨_,_,_,e,_⟩:=x;exact Heap.lt_size e
 | own y=>obtain ⟨_,e⟩:=x;exact Heap.lt_size e
 | xd fs=>obtain ⟨_,⟨_,_,_,e,_⟩,_⟩:=x;exact Heap.lt_size e
 | rng lo hi=>obtain ⟨_,_,_,e⟩:=x;exact Heap.lt_size e
 | frz ob u=>obtain ⟨e,_⟩:=x;exact Heap.lt_size e
 | tbl ps=>exact Heap.lt_size (show h.get? a=some _ from x)
 | met f y=>exact Heap.lt_size (show h.get? a=some _ from x)
 | ext φ=>obtain ⟨_,⟨_,e⟩,_⟩:=x;exact Heap.lt_size e
theorem Paired.mapP {α β:Type} {F G:α→β→Prop}: ∀{l₁:List α} {l₂:List β},Paired F l₁ l₂→(∀a b,F a b→G a b)→Paired G l₁ l₂
 | _,_,.nil,_=> .nil
 | _,_,.cons r t,f=> .cons (f _ _ r) (Paired.mapP t f)
theorem Paired.imp' {α β:Type} {F G:α→β→Prop} (f: ∀a b,F a b→G a b) {l₁:List α} {l₂:List β} (r:Paired F l₁ l₂):Paired G l₁ l₂:=Paired.mapP r f
theorem ObjOk.stay (x:ObjOk P w H h a o) (k: ∀b u,(b=a∨H b=some (.own a))→h.get? b=some u→h'.get? b=some u)
  (ho: ∀b,H b=some (.own a)→H' b=some (.own a)) (ht: ∀b xs,H b=some (.tup xs)→H' b=some (.tup xs)):ObjOk P w H' h' a o:=by
 induction o with
 | lst xs=>obtain ⟨z,its,n,r,e⟩:=x;exact ⟨z,its,n,r,k _ _ (.inl rfl) e⟩
 | tup xs=>obtain ⟨z,its,r,ob,e,c⟩:=x;exact ⟨z,its,r,ob,k _ _ (.inl rfl) e,c⟩
 | dK kvs=>obtain ⟨z,y,vs,r,ob,es,ep,e,c⟩:=x;exact ⟨z,y,vs,r,ob,es,ep,k _ _ (.inl rfl) e,c⟩
 | dT kvs=>
  obtain ⟨z,y,xs,r,ob,es,ep,e,c⟩:=x
  exact ⟨z,y,xs,Paired.mapP r fun p q z=>⟨z.1,z.2.1.mono ht,z.2.2⟩,ob,es,ep,k _ _ (.inl rfl) e,c⟩
 | set S n=>obtain ⟨ob,es,ep,t,e,c⟩:=x;exact ⟨ob,es,ep,t,k _ _ (.inl rfl) e,c⟩
 | ins C dx fs=>
  obtain ⟨d,z,ne,e,mA,⟨od,es,ep,e2,c⟩,r⟩:=x
  exact ⟨ho _ d,z,ne,k _ _ (.inl rfl) e,mA,⟨od,es,ep,k _ _ (.inr d) e2,c⟩,r⟩
 | own y=>obtain ⟨ob,e⟩:=x;exact ⟨ob,k _ _ (.inl rfl) e⟩
 | xd fs=>obtain ⟨mA,⟨od,es,ep,e,c⟩,r⟩:=x;exact ⟨mA,⟨od,es,ep,k _ _ (.inl rfl) e,c⟩,r⟩
 | rng lo hi=>obtain ⟨t,u,v,e⟩:=x;exact ⟨t,u,v,k _ _ (.inl rfl) e⟩
 | frz ob u ih=>obtain ⟨e,q⟩:=x;exact ⟨k _ _ (.inl rfl) e,ih q⟩
 | tbl ps=>
  have e:h.get? a=some {cls:= .none,data:= .fields ps}:=x
  show h'.get? a=some {cls:= .none,data:= .fields ps}
  exact k a _ (.inl rfl) e
 | met f y=>
  have e:h.get? a=some (PySem.W.methodObj (.ref f) (.ref y)):=x
  show h'.get? a=some (PySem.W.methodObj (.ref f) (.ref y))
  exact k a _ (.inl rfl) e
 | ext φ=>obtain ⟨p,⟨o,e⟩,st⟩:=x;exact ⟨st _ _ p fun o q=>k _ _ (.inl rfl) q,⟨o,k _ _ (.inl rfl) e⟩,st⟩
theorem HOk.lt (x:HOk P w H h) (e:H a=some o):a < h.objs.size:=(x a o e).lt
theorem HOk.fresh (x:HOk P w H h) (e:h.objs.size≤a):H a=none:=by
 cases q:H a with
 | none=>rfl
 | some u=>exact absurd (Nat.lt_of_lt_of_le (x.lt q) e) (Nat.lt_irrefl _)
theorem HOk.kept (x:HOk P w H h) (k: ∀b u,h.get? b=some u→h'.get? b=some u):HOk P w H h':=fun a o e=>
 (x a o e).stay (fun b u _ q=>k b u q) (fun _ q=>q) fun _ _ q=>q
theorem HOk.laid (x:HOk P w H h) (k: ∀b u,h.get? b=some u→h'.get? b=some u) (hp:h.objs.size≤a) (new:ObjOk P w (zj H a o) h' a o):HOk P w (zj H a o) h':=fun b u e=>by
 have hn:=x.fresh hp
 by_cases hb:b=a
 ·subst hb;rw [yD] at e;cases e;exact new
 ·rw [zR hb] at e
  exact (x b u e).stay (fun c v _ q=>k c v q) (fun c q=>by rw [zR (y0 q hn)];exact q) fun c xs q=>by rw [zR (y0 q hn)];exact q
end
def Rd (H:Hp) (a:Addr) (u:HO):Prop:=H a=some u∨∃o,H a=some (.frz o u)
theorem Rd.ok {P:Program} {w:World} {H:Hp} {h:Heap} {a:Addr} {u:HO} (r:Rd H a u) (x:HOk P w H h):ObjOk P w H h a u:=by
 rcases r with r | ⟨o,r⟩
 ·exact x a u r
 ·obtain ⟨_,q⟩:=x a _ r
  exact q
def Mut:Option HO→Prop
 | some (.lst _)=>True
 | some (.dK _)=>True
 | some (.dT _)=>True
 | some (.set _ _)=>True
 | some (.ins _ _ _)=>True
 | some (.ext _)=>True
 | _=>False
section
variable {P:Program} {w:World} {H:Hp} {h h':Heap} {x e:Addr} {o':HO}
theorem HOk.write (ok:HOk P w H h) (mu:Mut (H x)) (he:e=x∨H e=some (.own x)) (k: ∀b u,b≠e→h.get? b=some u→h'.get? b=some u) (heo: ∃u,h'.get? e=some u)
  (new:ObjOk P w (zj H x o') h' x o'):HOk P w (zj H x o') h':=fun b u q=>by
 have nown: ∀c y,H c=some (.own y)→c≠x:=fun c y r z=>by subst z;rw [r] at mu;exact mu
 have ntup: ∀c xs,H c=some (.tup xs)→c≠x:=fun c xs r z=>by subst z;rw [r] at mu;exact mu
 by_cases hb:b=x
 ·subst hb;rw [yD] at q;cases q;exact new
 ·rw [zR hb] at q
  by_cases hbe:b=e
  ·have q':H b=some (.own x):=by
    rcases he with z | z
    ·exact absurd (hbe.trans z) hb
    ·rw [hbe];exact z
   rw [q] at q';cases q'
   obtain ⟨v,hv⟩:=heo
   exact ⟨v,by rw [hbe];exact hv⟩
  ·refine (ok b u q).stay (fun c v hc r=>k c v ?_ r) (fun c r=>by rw [zR (nown c b r)];exact r) fun c xs r=>by rw [zR (ntup c xs r)];exact r
   rcases hc with rfl | hc
   ·exact hbe
   ·rintro rfl
    rcases he with z | z
    ·exact nown c b hc z
    ·rw [hc] at z;cases z;exact hb rfl
end
structure Un (fs ex:List Addr) (H H':Hp) (h h':Heap):Prop where
 keep: ∀b o,h.get? b=some o→H b=none→b∉fs→b∉ex→h'.get? b=some o
 slot: ∀b o,h.get? b=some o→H b=none→b∈fs→b∉ex→∃sl,h'.get? b=some {o with slots:=sl}
 free: ∀b o,h.get? b=some o→H b=none→b∉ex→H' b=none
 there: ∀b o,h.get? b=some o→b∉ex→∃o',h'.get? b=some o'
 tups: ∀b xs,H b=some (.tup xs)→H' b=some (.tup xs)
 frzs: ∀b o u,H b=some (.frz o u)→H' b=some (.frz o u)
 tbls: ∀b ps,H b=some (.tbl ps)→∃more,H' b=some (.tbl (ps++more))
section
variable {fs fs' ex ex':List Addr} {H H1 H2:Hp} {h h1 h2 h':Heap} {a x e:Addr} {o:HO}
theorem Un.any (u:Un fs ex H H1 h h1) {b:Addr} {ob:Obj} (q:h.get? b=some ob) (n:H b=none) (hx:b∉ex): ∃sl,h1.get? b=some {ob with slots:=sl}:=by
 by_cases hb:b∈fs
 ·exact u.slot b ob q n hb hx
 ·exact ⟨ob.slots,u.keep b ob q n hb hx⟩
theorem Un.kept (k: ∀b u,h.get? b=some u→h'.get? b=some u):Un fs ex H H h h':=
 ⟨fun b ob q _ _ _=>k b ob q,fun b ob q _ _ _=>⟨ob.slots,k b ob q⟩,fun _ _ _ n _=>n,fun b ob q _=>⟨ob,k b ob q⟩,fun _ _ q=>q,fun _ _ _ q=>q,fun _ ps q=>⟨#[],by rw [q];simp⟩⟩
theorem Un.refl:Un fs ex H H h h:=Un.kept fun _ _ q=>q
theorem Un.laid (k: ∀b u,h.get? b=some u→h'.get? b=some u) (hp:h.objs.size≤a) (hn:H a=none):Un fs ex H (zj H a o) h h' where
 keep:=fun b u q _ _ _=>k b u q
 slot:=fun b u q _ _ _=>⟨u.slots,k b u q⟩
 free:=fun b u q n _=>by rw [zR (Nat.ne_of_lt (Nat.lt_of_lt_of_le (Heap.lt_size q) hp))];exact n
 there:=fun b u q _=>⟨u,k b u q⟩
 tups:=fun b xs q=>by rw [zR (y0 q hn)];exact q
 frzs:=fun b u xs q=>by rw [zR (y0 q hn)];exact q
 tbls:=fun b ps q=>⟨#[],by rw [zR (y0 q hn),q];simp⟩
theorem Un.write (mu:Mut (H x)) (he:e=x∨H e=some (.own x)) (k: ∀b u,b≠e→h.get? b=some u→h'.get? b=some u) (heo: ∃u,h'.get? e=some u):Un fs ex H (zj H x o) h h':=by
 have hx: ∀b,H b=none→b≠x:=fun b n z=>by subst z;rw [n] at mu;exact mu
 have hb: ∀b,H b=none→b≠e:=fun b n z=>by
  subst z
  rcases he with r | r
  ·exact hx b n r
  ·rw [n] at r;cases r
 have hm: ∀b u,H b=some u→¬Mut (some u)→b≠x:=fun b u q nm z=>by subst z;rw [q] at mu;exact nm mu
 refine ⟨fun b u q n _ _=>k b u (hb b n) q,fun b u q n _ _=>⟨u.slots,k b u (hb b n) q⟩,fun b u q n _=>by rw [zR (hx b n)];exact n,fun b u q _=>?_,
  fun b xs q=>by rw [zR (hm b _ q fun z=>z)];exact q,fun b u xs q=>by rw [zR (hm b _ q fun z=>z)];exact q,fun b ps q=>⟨#[],by rw [zR (hm b _ q fun z=>z),q];simp⟩⟩
 by_cases hbe:b=e
 ·subst hbe;exact heo
 ·exact ⟨u,k b u hbe q⟩
end
noncomputable def trk (h:Heap) (H:Hp):List Addr:=(List.range h.objs.size).filter fun a=>(H a).isSome
def hidT (h:Heap) (H:Hp):Heap:=PySem.W.hideAll h (trk h H)
theorem zor (h:Heap) (H:Hp):(hidT h H).objs.size=h.objs.size:=PySem.W.hideAll_size _ _
theorem zr2 {h:Heap} {H:Hp} {b:Addr} {o:Obj} (e:h.get? b=some o) (n:H b=none):(hidT h H).get? b=some o:=
 PySem.W.hideAll_get _ e fun hm=>by
  have q:(H b).isSome=true:=(List.mem_filter.mp hm).2
  rw [n] at q;simp at q
theorem zvu {h:Heap} {H:Hp} {b:Addr} {o:Obj} (e:(hidT h H).get? b=some o):h.get? b=some o∧H b=none:=by
 have e':h.get? b=some o:=PySem.W.of_hideAll (trk h H) e
 refine ⟨e',?_⟩
 cases q:H b with
 | none=>rfl
 | some x=>
  have hm:b∈trk h H:=List.mem_filter.mpr ⟨List.mem_range.mpr (Heap.lt_size e'),by simp [q]⟩
  have z:(hidT h H).get? b=none:=PySem.W.hideAll_none (trk h H) hm
  rw [z] at e;cases e
structure Mod (K:PySem.W.Frag) (mg:Str→Option Value) (base:Heap):Prop where
 kin:K.In base
 glob:base.Ns mainGlobals mg
 blt: ∃mb,base.Ns builtinsNs mb∧∀x:Str,x≠"__name__" →mb x=bootBuiltins x
 nolimit:base.NoLimit
structure Cx where
 prog:Program
 w:World
 K:PySem.W.Frag
 mg:Str→Option Value
 base:Heap
 A:Around
 N:List Str
 s₀:Shared
 H₀:Hp
 env:Env
 outer:List Env
 stack:List Env
 ex:List Addr
 fn:Str→Bool
 calm:Bool
 pn:List (Addr×Obj)
 xe:Value→Shared→Prop
def yz (l:List Env):List Addr:=l.filterMap (·.frame)
abbrev Cx.fs (X:Cx):List Addr:=yz X.outer
def Vis (sc:Scope) (x:Str):Prop:=sc.names.lookup x=some .local∨sc.names.lookup x=some .cell∨sc.names.lookup x=some .free
def Loc (sc:Scope) (x:Str):Prop:=sc.names.lookup x=some .local∨sc.names.lookup x=some .cell
def Look (env:Env) (h:Heap) (m:Str→Option Value) (x:Str) (u:Value):Prop:=
 (env.kindOf x=some .local∧m x=some u)∨((env.kindOf x=some .cell∨env.kindOf x=some .free)∧∃c,env.cells.lookup x=some c∧h.IsCell c (some u))
structure Cx.Ok (X:Cx):Prop where
 mod:Mod X.K X.mg X.base
 kind:X.env.scope.kind= .function
 glob:X.env.globals=mainGlobals
 blt:X.env.builtins=builtinsNs
 above:X.s₀.heap.objs.size≤X.env.locals
 inj: ∀x y c,X.env.cells.lookup x=some c→X.env.cells.lookup y=some c→x=y
 has: ∀x,(X.env.kindOf x=some .cell∨X.env.kindOf x=some .free)→∃c,X.env.cells.lookup x=some c
 cab: ∀x c,X.fn x=true→X.env.cells.lookup x=some c→X.s₀.heap.objs.size≤c
 hd:X.calm=true→X.A.handled=none
 frames:X.A.frames=some X.stack
 stk:X.stack=X.outer∨(X.stack=X.env::X.outer∧X.env.frame=some X.env.locals)
 exf: ∀b∈X.ex,b≠X.env.locals∧∀x c,X.env.cells.lookup x=some c→c≠b
 bs: ∀b o,X.base.get? b=some o→X.s₀.heap.get? b=some o∧X.H₀ b=none
 bsz:X.base.objs.size≤X.s₀.heap.objs.size
 noex: ∀b o,X.base.get? b=some o→b∉X.ex
 exfs: ∀b∈X.ex,b∉X.fs
 funs:X.s₀.heap.FunFrames X.base X.outer
 frf: ∀b∈X.fs,X.H₀ b=none
structure Inv (X:Cx) (pins:List (Addr×Obj)) (σ:List (Option V)) (H:Hp) (s:Shared):Prop where
 ok:X.Ok
 os:s.os=X.s₀.os
 bare:AllBare s.gens
 base:Un X.fs X.ex X.H₀ H X.s₀.heap s.heap
 loc: ∃m,s.heap.Ns X.env.locals m∧∀(i:Nat) (x:Str) (v:V),X.N[i]? =some x→σ[i]? =some (some v)→Vis X.env.scope x→∃u,RelV v u∧Look X.env s.heap m x u
 cell: ∀x c,X.env.cells.lookup x=some c→∃v,s.heap.IsCell c v
 free:H X.env.locals=none
 freeC: ∀x c,X.env.cells.lookup x=some c→H c=none
 pin: ∀p∈X.pn++pins,s.heap.get? p.1=some p.2∧H p.1=none∧p.1≠X.env.locals∧p.1∉X.fs∧∀v,p.2.data≠ .cell v
 hok:HOk X.prog X.w H s.heap
 len:σ.length=X.N.length
section
variable {X:Cx} {pins:List (Addr×Obj)} {σ:List (Option V)} {H H':Hp} {s:Shared} {h':Heap}
theorem Cx.Ok.nofr (ok:X.Ok) {b:Addr} {o:Obj} (e:X.base.get? b=some o):b∉X.fs:=fun hb=>by
 have:=(ok.funs.mem hb).1
 rw [e] at this;cases this
theorem Inv.bs (I:Inv X pins σ H s): ∀b o,X.base.get? b=some o→s.heap.get? b=some o∧H b=none:=fun b o e=>
 ⟨I.base.keep b o (I.ok.bs b o e).1 (I.ok.bs b o e).2 (I.ok.nofr e) (I.ok.noex b o e),I.base.free b o (I.ok.bs b o e).1 (I.ok.bs b o e).2 (I.ok.noex b o e)⟩
theorem Inv.bk (I:Inv X pins σ H s): ∀b o,X.base.get? b=some o→s.heap.get? b=some o:=fun b o e=>(I.bs b o e).1
theorem Inv.mod (I:Inv X pins σ H s):Mod X.K X.mg X.base:=I.ok.mod
theorem Inv.kIn (I:Inv X pins σ H s):X.K.In s.heap:=I.ok.mod.kin.keeps I.bk
theorem Inv.lt (I:Inv X pins σ H s):X.env.locals < s.heap.objs.size:=let ⟨_,hn,_⟩:=I.loc;hn.lt
theorem Inv.sz (I:Inv X pins σ H s):X.s₀.heap.objs.size≤s.heap.objs.size:=Nat.le_trans I.ok.above (Nat.le_of_lt I.lt)
theorem Inv.nofs (I:Inv X pins σ H s) {a:Addr} (h:s.heap.objs.size≤a):a∉X.fs:=fun hb=>by
 obtain ⟨_,o,ho,_⟩:=I.ok.funs.mem hb
 exact absurd (Nat.lt_of_lt_of_le (Heap.lt_size ho) (Nat.le_trans I.sz h)) (Nat.lt_irrefl _)
theorem Inv.cne (I:Inv X pins σ H s): ∀x c,X.env.cells.lookup x=some c→c≠X.env.locals:=fun x c e z=>by
 obtain ⟨v,o,ho,hd⟩:=I.cell x c e
 obtain ⟨m,⟨o',es,ep,ho',hd',_⟩,_⟩:=I.loc
 rw [z,ho'] at ho;cases ho;rw [hd'] at hd;cases hd
theorem Inv.funs (I:Inv X pins σ H s):s.heap.FunFrames X.base X.outer:=by
 have all: ∀(l:List Env),(∀b∈yz l,b∈X.fs)→X.s₀.heap.FunFrames X.base l→s.heap.FunFrames X.base l:=by
  intro l
  induction l with
  | nil=>intro _ _;trivial
  | cons env r ih=>
   intro hs hl
   obtain ⟨hk,⟨L,o,hf,hn,ho,hd⟩,hr⟩:=hl
   have hL:L∈X.fs:=hs L (by unfold yz;rw [List.filterMap_cons,hf];exact List.mem_cons_self)
   obtain ⟨sl,e⟩:=I.base.slot L o ho (I.ok.frf L hL) hL fun z=>I.ok.exfs L z hL
   exact ⟨hk,⟨L,_,hf,hn,e,hd⟩,ih (fun b hb=>hs b (by unfold yz;rw [List.filterMap_cons,hf];exact List.mem_cons_of_mem _ hb)) hr⟩
 exact all X.outer (fun _ hb=>hb) I.ok.funs
theorem Inv.stack (I:Inv X pins σ H s):s.heap.FunFrames X.base X.stack:=by
 rcases I.ok.stk with e | ⟨e,hf⟩
 ·rw [e];exact I.funs
 ·rw [e]
  obtain ⟨m,hn,_⟩:=I.loc
  refine .cons (by rw [I.ok.kind];decide) hf hn ?_ I.funs
  exact Heap.get?_none_of_le (Nat.le_trans I.ok.bsz I.ok.above)
theorem Inv.stkSub (I:Inv X pins σ H s): ∀b∈yz X.stack,b∈X.env.locals::X.fs:=fun b hb=>by
 rcases I.ok.stk with e | ⟨e,hf⟩
 ·rw [e] at hb;exact List.mem_cons_of_mem _ hb
 ·rw [e] at hb
  unfold yz at hb
  rw [List.filterMap_cons,hf] at hb
  exact hb
theorem Inv.stkFree (I:Inv X pins σ H s): ∀b∈yz X.stack,H b=none:=fun b hb=>by
 rcases List.mem_cons.mp (I.stkSub b hb) with e | hb
 ·rw [e];exact I.free
 ·obtain ⟨_,o,ho,_⟩:=I.ok.funs.mem hb
  exact I.base.free b o ho (I.ok.frf b hb) fun z=>I.ok.exfs b z hb
theorem Inv.step {g':Array GenState} {t':Nat} {d':Drawn} {ch:List Addr} (I:Inv X pins σ H s)
  (hch: ∀b∈ch,(b∈X.ex∨X.s₀.heap.objs.size≤b)∧b≠X.env.locals∧(∀x c,X.env.cells.lookup x=some c→c≠b)∧∀p∈X.pn++pins,p.1≠b)
  (keep: ∀b o,b≠X.env.locals→b∉X.fs→b∉ch→s.heap.get? b=some o→H b=none→h'.get? b=some o)
  (slot: ∀b o,b≠X.env.locals→b∈X.fs→b∉ch→s.heap.get? b=some o→H b=none→∃sl,h'.get? b=some {o with slots:=sl}) (free: ∀b o,b∉ch→s.heap.get? b=some o→H b=none→H' b=none)
  (there: ∀b o,b∉ch→s.heap.get? b=some o→∃o',h'.get? b=some o')
  (tups: ∀b xs,H b=some (.tup xs)→H' b=some (.tup xs)) (frzs: ∀b o u,H b=some (.frz o u)→H' b=some (.frz o u)) (tbls: ∀b ps,H b=some (.tbl ps)→∃more,H' b=some (.tbl (ps++more)))
  (ns: ∀m,s.heap.Ns X.env.locals m→h'.Ns X.env.locals m) (hok:HOk X.prog X.w H' h') (hg:AllBare g'):
  Inv X pins σ H' {s with heap:=h',gens:=g',drawn:=d',toks:=t'}:=by
 have neL: ∀b o,X.s₀.heap.get? b=some o→b≠X.env.locals:=fun b o e=>Nat.ne_of_lt (Nat.lt_of_lt_of_le (Heap.lt_size e) I.ok.above)
 have neC: ∀b o,X.s₀.heap.get? b=some o→b∉X.ex→b∉ch:=fun b o e hx hb=>by
  rcases (hch b hb).1 with z | z
  ·exact hx z
  ·exact absurd (Nat.lt_of_lt_of_le (Heap.lt_size e) z) (Nat.lt_irrefl _)
 have cellK: ∀x c,X.env.cells.lookup x=some c→∀v,s.heap.IsCell c v→h'.IsCell c v:=fun x c e v ⟨o,ho,hd⟩=>by
  have nch:c∉ch:=fun z=>(hch c z).2.2.1 x c e rfl
  by_cases hc:c∈X.fs
  ·obtain ⟨sl,q⟩:=slot c o (I.cne x c e) hc nch ho (I.freeC x c e)
   exact ⟨_,q,hd⟩
  ·exact ⟨o,keep c o (I.cne x c e) hc nch ho (I.freeC x c e),hd⟩
 refine ⟨I.ok,I.os,hg,⟨fun b o e n hb hx=>?_,fun b o e n hb hx=>?_,fun b o e n hx=>?_,fun b o e hx=>?_,fun b xs e=>tups b xs (I.base.tups b xs e),fun b o xs e=>frzs b o xs (I.base.frzs b o xs e),fun b ps e=>?_⟩,?_,fun x c e=>?_,?_,fun x c e=>?_,fun p hp=>?_,hok,I.len⟩
 ·exact keep b o (neL b o e) hb (neC b o e hx) (I.base.keep b o e n hb hx) (I.base.free b o e n hx)
 ·obtain ⟨sl,e1⟩:=I.base.slot b o e n hb hx
  obtain ⟨sl',e2⟩:=slot b _ (neL b o e) hb (neC b o e hx) e1 (I.base.free b o e n hx)
  exact ⟨sl',e2⟩
 ·obtain ⟨o',e1⟩:=I.base.there b o e hx
  exact free b o' (neC b o e hx) e1 (I.base.free b o e n hx)
 ·obtain ⟨o',e1⟩:=I.base.there b o e hx
  exact there b o' (neC b o e hx) e1
 ·obtain ⟨m1,e1⟩:=I.base.tbls b ps e
  obtain ⟨m2,e2⟩:=tbls b _ e1
  exact ⟨m1++m2,by rw [e2,Array.append_assoc]⟩
 ·obtain ⟨m,hn,hl⟩:=I.loc
  refine ⟨m,ns m hn,fun i x v e1 e2 e3=>?_⟩
  obtain ⟨u,r,l⟩:=hl i x v e1 e2 e3
  refine ⟨u,r,?_⟩
  rcases l with l | ⟨k,c,e,z⟩
  ·exact .inl l
  ·exact .inr ⟨k,c,e,cellK x c e _ z⟩
 ·obtain ⟨v,z⟩:=I.cell x c e
  exact ⟨v,cellK x c e v z⟩
 ·obtain ⟨m,⟨o,_,_,ho,_⟩,_⟩:=I.loc
  exact free _ o (fun z=>(hch _ z).2.1 rfl) ho I.free
 ·obtain ⟨v,o,ho,hd⟩:=I.cell x c e
  exact free c o (fun z=>(hch c z).2.2.1 x c e rfl) ho (I.freeC x c e)
 ·obtain ⟨e,n,ne,nf,d⟩:=I.pin p hp
  have nch:p.1∉ch:=fun z=>(hch p.1 z).2.2.2 p hp rfl
  exact ⟨keep p.1 p.2 ne nf nch e n,free p.1 p.2 nch e n,ne,nf,d⟩
theorem Inv.un {t':Nat} (I:Inv X pins σ H s) (u:Un X.fs [] H H' s.heap h') (hok:HOk X.prog X.w H' h'):Inv X pins σ H' {s with heap:=h',toks:=t'}:=by
 obtain ⟨m,⟨o,es,ep,ho,r⟩,_⟩:=id I.loc
 obtain ⟨sl,hL⟩:=u.any ho I.free (by simp)
 exact I.step (g':=s.gens) (d':=s.drawn) (ch:=[]) (fun _ z=>nomatch z) (fun b o _ hb _ e n=>u.keep b o e n hb (by simp)) (fun b o _ hb _ e n=>u.slot b o e n hb (by simp)) (fun b o _ e n=>u.free b o e n (by simp)) (fun b o _ e=>u.there b o e (by simp)) u.tups u.frzs u.tbls (fun m' hm=>by
  obtain ⟨o',es',ep',ho',r'⟩:=hm
  rw [ho] at ho';cases ho'
  exact ⟨_,es',ep',hL,r'⟩) hok I.bare
theorem Inv.call {g':Array GenState} {t':Nat} {d':Drawn} {ch:List Addr} (I:Inv X pins σ H s) (u:Un (yz X.stack) ch H H' s.heap h') (hok:HOk X.prog X.w H' h') (hg:AllBare g')
  (hch: ∀b∈ch,(b∈X.ex∨X.s₀.heap.objs.size≤b)∧b≠X.env.locals∧(∀x c,X.env.cells.lookup x=some c→c≠b)∧∀p∈X.pn++pins,p.1≠b):
  Inv X pins σ H' {s with heap:=h',gens:=g',drawn:=d',toks:=t'}:=by
 obtain ⟨m,⟨o,es,ep,ho,r⟩,_⟩:=id I.loc
 obtain ⟨sl,hL⟩:=u.any ho I.free fun z=>(hch _ z).2.1 rfl
 exact I.step (ch:=ch) hch (fun b o hL hb hc e n=>u.keep b o e n (fun z=>(List.mem_cons.mp (I.stkSub b z)).elim hL hb) hc) (fun b o _ _ hc e n=>u.any e n hc) (fun b o hc e n=>u.free b o e n hc) (fun b o hc e=>u.there b o e hc) u.tups u.frzs u.tbls (fun m' hm=>by
  obtain ⟨o',es',ep',ho',r'⟩:=hm
  rw [ho] at ho';cases ho'
  exact ⟨_,es',ep',hL,r'⟩) hok hg
theorem Inv.turned {t':Nat} {it:Addr} (I:Inv X pins σ H s) (k: ∀b o,b≠it→s.heap.get? b=some o→h'.get? b=some o) (hn:H it=none) (hL:it≠X.env.locals)
  (h1:it∈X.ex∨X.s₀.heap.objs.size≤it) (h2: ∀x c,X.env.cells.lookup x=some c→c≠it) (h3: ∀p∈X.pn++pins,p.1≠it):Inv X pins σ H {s with heap:=h',toks:=t'}:=by
 have nit: ∀b u,H b=some u→b≠it:=fun b u e z=>by rw [z,hn] at e;cases e
 refine I.step (g':=s.gens) (d':=s.drawn) (ch:=[it]) (fun b hb=>?_) (fun b o _ _ hc e _=>k b o (fun z=>hc (by simp [z])) e) (fun b o _ _ hc e _=>⟨o.slots,k b o (fun z=>hc (by simp [z])) e⟩) (fun _ _ _ _ n=>n)
  (fun b o hc e=>⟨o,k b o (fun z=>hc (by simp [z])) e⟩) (fun _ _ e=>e) (fun _ _ _ e=>e) (fun b ps e=>⟨#[],by rw [e];simp⟩) (fun m hm=>?_) (fun b u e=>?_) I.bare
 ·have e:b=it:=by simpa using hb
  subst e
  exact ⟨h1,hL,h2,h3⟩
 ·obtain ⟨o,es,ep,ho,r⟩:=hm
  exact ⟨o,es,ep,k _ o (Ne.symm hL) ho,r⟩
 ·refine (I.hok b u e).stay (fun c v hc q=>k c v ?_ q) (fun _ q=>q) fun _ _ q=>q
  rcases hc with z | z
  ·rw [z];exact nit b u e
  ·exact nit c _ z
theorem Inv.tok (I:Inv X pins σ H s) (t:Nat):Inv X pins σ H {s with toks:=t}:=I.un (h':=s.heap) (t':=t) Un.refl I.hok
theorem Inv.kept {t':Nat} (I:Inv X pins σ H s) (k: ∀b u,s.heap.get? b=some u→h'.get? b=some u):Inv X pins σ H {s with heap:=h',toks:=t'}:=I.un (Un.kept k) (I.hok.kept k)
theorem Inv.laid {a:Addr} {o:HO} {t':Nat} (I:Inv X pins σ H s) (k: ∀b u,s.heap.get? b=some u→h'.get? b=some u) (hp:s.heap.objs.size≤a) (new:ObjOk X.prog X.w (zj H a o) h' a o):
 Inv X pins σ (zj H a o) {s with heap:=h',toks:=t'}:=I.un (Un.laid k hp (I.hok.fresh hp)) (I.hok.laid k hp new)
theorem Inv.write {x e:Addr} {o:HO} {t':Nat} (I:Inv X pins σ H s) (mu:Mut (H x)) (he:e=x∨H e=some (.own x)) (k: ∀b u,b≠e→s.heap.get? b=some u→h'.get? b=some u) (heo: ∃u,h'.get? e=some u)
 (new:ObjOk X.prog X.w (zj H x o) h' x o):Inv X pins σ (zj H x o) {s with heap:=h',toks:=t'}:=I.un (Un.write mu he k heo) (I.hok.write mu he k heo new)
theorem Inv.pins_of {pins':List (Addr×Obj)} (I:Inv X pins σ H s) (h: ∀p∈pins',s.heap.get? p.1=some p.2∧H p.1=none∧p.1≠X.env.locals∧p.1∉X.fs∧∀v,p.2.data≠ .cell v):Inv X pins' σ H s:=
 ⟨I.ok,I.os,I.bare,I.base,I.loc,I.cell,I.free,I.freeC,fun p hp=>(List.mem_append.mp hp).elim (fun z=>I.pin p (List.mem_append_left _ z)) (h p),I.hok,I.len⟩
theorem zlw {N:List Str} (hN:N.Nodup) {i j:Nat} {x:Str} (a:N[i]? =some x) (b:N[j]? =some x):i=j:=by
 obtain ⟨h1,e1⟩:=List.getElem?_eq_some_iff.mp a
 obtain ⟨h2,e2⟩:=List.getElem?_eq_some_iff.mp b
 exact (List.getElem_inj hN).mp (e1.trans e2.symm)
theorem znz {M:Model} {A:Around} {E:Value→Shared→Prop} {i:Nat} {x:Str} {v:V} {u:Value} {Q:Unit→Shared→Prop} (I:Inv X pins σ H s) (hN:X.N.Nodup) (hi:X.N[i]? =some x) (hx:Loc X.env.scope x) (r:RelV v u)
  (h: ∀s',Inv X pins (σ.set i (some v)) H s'→(∃a,Heap.SameBut a s.heap s'.heap∧(a=X.env.locals∨X.env.cells.lookup x=some a))→Q () s') (hf:X.fn x=true∨X.env.scope.names.lookup x=some .local:=by first | exact .inl rfl | exact .inr rfl | assumption):wpAny M A (storeName X.env x u) Q E s:=by
 obtain ⟨m,hn,hl⟩:=id I.loc
 have hcls:(X.env.scope.kind== .class || (X.env.scope.kind== .module && X.env.locals !=X.env.globals))=false:=by rw [I.ok.kind];rfl
 have hiσ:i < σ.length:=by rw [I.len];exact (List.getElem?_eq_some_iff.mp hi).1
 have cne:=I.cne
 have tracked: ∀{a:Addr} {h':Heap},(∃o,s.heap.get? a=some o∧H a=none)→Heap.SameBut a s.heap h'→HOk X.prog X.w H h':=fun {a h'} ha hs b ob e=>by
  obtain ⟨_,_,hfree⟩:=ha
  refine (I.hok b ob e).stay (fun c w' hc q=>(hs.2 c ?_).trans q) (fun _ q=>q) fun _ _ q=>q
  rintro rfl
  rcases hc with rfl | hc
  ·rw [hfree] at e;cases e
  ·rw [hfree] at hc;cases hc
 rcases hx with hk | hk
 ·refine wpAny_storeName_local hk hn (fun h' hn' hs=>?_) hcls
  obtain ⟨oL,_,_,hoL,_⟩:=id hn
  refine h _ ⟨I.ok,I.os,I.bare,⟨fun b o e n hb hx=>?_,fun b o e n hb hx=>?_,I.base.free,fun b o e hx=>?_,I.base.tups,I.base.frzs,I.base.tbls⟩,⟨_,hn',fun j y v' e1 e2 e3=>?_⟩,fun y c e=>?_,I.free,I.freeC,fun p hp=>?_,tracked ⟨oL,hoL,I.free⟩ hs,by simpa using I.len⟩ ⟨_,hs,.inl rfl⟩
  ·exact (hs.2 b (Nat.ne_of_lt (Nat.lt_of_lt_of_le (Heap.lt_size e) I.ok.above))).trans (I.base.keep b o e n hb hx)
  ·obtain ⟨sl,e1⟩:=I.base.slot b o e n hb hx
   exact ⟨sl,(hs.2 b (Nat.ne_of_lt (Nat.lt_of_lt_of_le (Heap.lt_size e) I.ok.above))).trans e1⟩
  ·obtain ⟨o',e1⟩:=I.base.there b o e hx
   exact ⟨o',(hs.2 b (Nat.ne_of_lt (Nat.lt_of_lt_of_le (Heap.lt_size e) I.ok.above))).trans e1⟩
  ·by_cases hj:j=i
   ·subst hj
    rw [hi] at e1;cases e1
    rw [List.getElem?_set_self hiσ] at e2
    cases e2
    exact ⟨u,r,.inl ⟨hk,by simp⟩⟩
   ·rw [List.getElem?_set_ne (Ne.symm hj)] at e2
    obtain ⟨u',r',q⟩:=hl j y v' e1 e2 e3
    refine ⟨u',r',?_⟩
    rcases q with ⟨k,e⟩ | ⟨k,c,e,z⟩
    ·refine .inl ⟨k,?_⟩
     have:y≠x:=fun e=>hj (zlw hN e1 (e ▸ hi))
     simp [this,e]
    ·exact .inr ⟨k,c,e,z.sameBut hs (cne y c e)⟩
  ·obtain ⟨w',z⟩:=I.cell y c e
   exact ⟨w',z.sameBut hs (cne y c e)⟩
  ·obtain ⟨e,n,ne,nf,d⟩:=I.pin p hp
   exact ⟨(hs.2 p.1 ne).trans e,n,ne,nf,d⟩
 ·have hfn:X.fn x=true:=by
   rcases hf with z | z
   ·exact z
   ·rw [z] at hk;cases hk
  obtain ⟨c,hc⟩:=I.ok.has x (.inl hk)
  obtain ⟨w',z⟩:=I.cell x c hc
  refine wpAny_storeName_cell I.ok.kind hk hc z (fun h' hc' hs=>?_)
  obtain ⟨oc,hoc,hocd⟩:=id z
  refine h {s with heap:=h'} ⟨I.ok,I.os,I.bare,⟨fun b o e n hb hx=>?_,fun b o e n hb hx=>?_,I.base.free,fun b o e hx=>?_,I.base.tups,I.base.frzs,I.base.tbls⟩,⟨m,hn.sameBut hs (Ne.symm (cne x c hc)),fun j y v' e1 e2 e3=>?_⟩,fun y c' e=>?_,I.free,I.freeC,fun p hp=>?_,tracked ⟨oc,hoc,I.freeC x c hc⟩ hs,by simpa using I.len⟩ ⟨c,hs,.inr hc⟩
  ·exact (hs.2 b (Nat.ne_of_lt (Nat.lt_of_lt_of_le (Heap.lt_size e) (I.ok.cab x c hfn hc)))).trans (I.base.keep b o e n hb hx)
  ·obtain ⟨sl,e1⟩:=I.base.slot b o e n hb hx
   exact ⟨sl,(hs.2 b (Nat.ne_of_lt (Nat.lt_of_lt_of_le (Heap.lt_size e) (I.ok.cab x c hfn hc)))).trans e1⟩
  ·obtain ⟨o',e1⟩:=I.base.there b o e hx
   exact ⟨o',(hs.2 b (Nat.ne_of_lt (Nat.lt_of_lt_of_le (Heap.lt_size e) (I.ok.cab x c hfn hc)))).trans e1⟩
  ·by_cases hj:j=i
   ·subst hj
    rw [hi] at e1;cases e1
    rw [List.getElem?_set_self hiσ] at e2
    cases e2
    exact ⟨u,r,.inr ⟨.inl hk,c,hc,hc'⟩⟩
   ·rw [List.getElem?_set_ne (Ne.symm hj)] at e2
    obtain ⟨u',r',q⟩:=hl j y v' e1 e2 e3
    refine ⟨u',r',?_⟩
    rcases q with q | ⟨k,c',e,z'⟩
    ·exact .inl q
    ·refine .inr ⟨k,c',e,z'.sameBut hs ?_⟩
     rintro rfl
     exact hj (zlw hN e1 (I.ok.inj _ _ _ e hc ▸ hi))
  ·by_cases hcc:c'=c
   ·subst hcc;exact ⟨_,hc'⟩
   ·obtain ⟨w2,z2⟩:=I.cell y c' e
    exact ⟨w2,z2.sameBut hs hcc⟩
  ·obtain ⟨e,n,ne,nf,d⟩:=I.pin p hp
   refine ⟨(hs.2 p.1 ?_).trans e,n,ne,nf,d⟩
   intro q
   rw [q,hoc] at e
   have q':oc=p.2:=Option.some.inj e
   exact d w' (by rw [←q'];exact hocd)
theorem zfy {M:Model} {A:Around} {E:Value→Shared→Prop} {i:Nat} {x:Str} {v:V} {u:Value} {Q:Unit→Shared→Prop} (I:Inv X pins σ H s) (hN:X.N.Nodup) (hi:X.N[i]? =some x) (hx:Loc X.env.scope x) (r:RelV v u)
  (h: ∀s',Inv X pins (σ.set i (some v)) H s'→Q () s') (hf:X.fn x=true∨X.env.scope.names.lookup x=some .local:=by first | exact .inl rfl | exact .inr rfl | assumption):wpAny M A (storeName X.env x u) Q E s:=
 znz I hN hi hx r (fun s' I' _=>h s' I') hf
theorem Inv.call' {s':Shared} {ch:List Addr} (I:Inv X pins σ H s) (ho:s'.os=s.os) (u:Un (yz X.stack) ch H H' s.heap s'.heap) (hok:HOk X.prog X.w H' s'.heap) (hg:AllBare s'.gens)
  (hch: ∀b∈ch,(b∈X.ex∨X.s₀.heap.objs.size≤b)∧b≠X.env.locals∧(∀x c,X.env.cells.lookup x=some c→c≠b)∧∀p∈X.pn++pins,p.1≠b):Inv X pins σ H' s':=by
 obtain ⟨h',g',d',t',o'⟩:=s'
 have e:o'=s.os:=ho
 subst e
 exact I.call (g':=g') (t':=t') (d':=d') u hok hg hch
end
abbrev XK:=Value→Option Addr→Hp→Prop
abbrev St:=List (Option V)
abbrev VK:=V→Hp→Prop
abbrev TE:=St→Hp→VK→Prop
abbrev TT:=St→Hp→(Bool→Hp→Prop)→Prop
abbrev TA:=St→Hp→(List V→Hp→Prop)→Prop
structure Ends where
 nx:St→Hp→Prop
 rt:VK
 bk:St→Hp→Prop:=fun _ _=>False
 ct:St→Hp→Prop:=fun _ _=>False
abbrev TS:=Ends→St→Hp→Prop
def EP (X:Cx) (pins:List (Addr×Obj)) (σ:St) (Q:VK) (u:Value) (s':Shared):Prop:=∃v H',Inv X pins σ H' s'∧RelV v u∧Q v H'
def TP (X:Cx) (pins:List (Addr×Obj)) (σ:St) (Q:Bool→Hp→Prop) (b:Bool) (s':Shared):Prop:=∃H',Inv X pins σ H' s'∧Q b H'
def AP (X:Cx) (pins:List (Addr×Obj)) (σ:St) (Q:List V→Hp→Prop) (us:List Value) (s':Shared):Prop:=∃vs H',Inv X pins σ H' s'∧Vals vs us∧Q vs H'
def SP (X:Cx) (pins:List (Addr×Obj)) (D:Ends) (f:Flow) (s':Shared):Prop:=
 match f with
 | .next=> ∃σ' H',Inv X pins σ' H' s'∧D.nx σ' H'
 | .brk=> ∃σ' H',Inv X pins σ' H' s'∧D.bk σ' H'
 | .cont=> ∃σ' H',Inv X pins σ' H' s'∧D.ct σ' H'
 | .ret u=> ∃v σ' H',Inv X pins σ' H' s'∧RelV v u∧D.rt v H'
def PE (X:Cx) (e:Expr) (t:TE):Prop:=
 ∀(pins:List (Addr×Obj)) (s:Shared) (σ:St) (H:Hp) (Q:VK),Inv X pins σ H s→t σ H Q→wpAny (model X.prog X.w) X.A (eval e X.env) (EP X pins σ Q) X.xe s
def PT (X:Cx) (e:Expr) (t:TT):Prop:=
 ∀(pins:List (Addr×Obj)) (s:Shared) (σ:St) (H:Hp) (Q:Bool→Hp→Prop),Inv X pins σ H s→t σ H Q→wpAny (model X.prog X.w) X.A (isTrue e X.env (eval e X.env)) (TP X pins σ Q) X.xe s
def PW (X:Cx) (e:Expr) (t:TT):Prop:=
 ∀(whole:Sem Value) (pins:List (Addr×Obj)) (s:Shared) (σ:St) (H:Hp) (Q:Bool→Hp→Prop),Inv X pins σ H s→t σ H Q→wpAny (model X.prog X.w) X.A (isTrue e X.env whole) (TP X pins σ Q) X.xe s
theorem PW.pt {X:Cx} {e:Expr} {t:TT} (h:PW X e t):PT X e t:=h _
def PA (X:Cx) (es:List Expr) (t:TA):Prop:=
 ∀(pos:Pos) (pins:List (Addr×Obj)) (s:Shared) (σ:St) (H:Hp) (Q:List V→Hp→Prop),Inv X pins σ H s→t σ H Q→wpAny (model X.prog X.w) X.A (spliced (backTo pos (starEach es X.env))) (AP X pins σ Q) X.xe s
def PS (X:Cx) (st:Stmt) (t:TS):Prop:=
 ∀(pins:List (Addr×Obj)) (s:Shared) (σ:St) (H:Hp) (D:Ends),Inv X pins σ H s→t D σ H→wpAny (model X.prog X.w) X.A (exec st X.env) (SP X pins D) X.xe s
def yR (X:Cx) (st:List Stmt) (t:TS):Prop:=
 ∀(pins:List (Addr×Obj)) (s:Shared) (σ:St) (H:Hp) (D:Ends),Inv X pins σ H s→t D σ H→wpAny (model X.prog X.w) X.A (execs st X.env) (SP X pins D) X.xe s
theorem zt {α:Type} {t:Sem α} {Q Q':α→Shared→Prop} {M:Model} {A:Around} {E:Value→Shared→Prop} {s:Shared} (h:wpAny M A t Q E s) (hQ: ∀a s,Q a s→Q' a s):wpAny M A t Q' E s:=wpAny_mono h hQ fun _ _ x=>x
section
variable {X:Cx}
def tVar (i:Nat):TE:=fun σ H Q=> ∃v,σ[i]? =some (some v)∧Q v H
def tC (v:V):TE:=fun _ H Q=>Q v H
theorem zyq {i:Nat} {x:Str} {pos:Pos} (hN:X.N[i]? =some x) (hv:Vis X.env.scope x) (hd:(x==("__debug__" :Str))=false:=by decide) (hcd:(x==("__classdict__" :Str))=false:=by decide):PE X (.Name x pos) (tVar i):=by
 intro pins s σ H Q I h
 obtain ⟨v,e,h⟩:=h
 obtain ⟨m,hn,hl⟩:=I.loc
 obtain ⟨u,r,l⟩:=hl i x v hN e hv
 have fin:EP X pins σ Q u s:=⟨v,H,I,r,h⟩
 rcases l with ⟨hk,hm⟩ | ⟨hk,c,hc,hcell⟩
 ·exact wpAny_Name (wpAny_loadName_local I.ok.kind hk hn hm fin) hd
 ·rcases hk with hk | hk
  ·exact wpAny_Name (wpAny_loadName_cell I.ok.kind hk hc hcell fin) hd
  ·exact wpAny_Name (wpAny_loadName_free I.ok.kind hk hc hcell fin hcd) hd
theorem zyt {i j pos}:PE X (.Constant (.int i) j pos) (tC (.int i)):=fun _ _ _ H _ I h=>wpAny_Constant_int ⟨.int i,H,I.tok _,⟨_,rfl⟩,h⟩
theorem zz2 {b j pos}:PE X (.Constant (.bool b) j pos) (tC (.bl b)):=fun _ _ _ H _ I h=>Constant_bool ⟨.bl b,H,I,rfl,h⟩
theorem zy1 {j pos}:PE X (.Constant .none j pos) (tC .non):=fun _ _ _ H _ I h=>Constant_none ⟨.non,H,I,rfl,h⟩
theorem zxx {x j pos}:PE X (.Constant (.str x) j pos) (tC (.str x)):=fun _ _ _ H _ I h=>Calls.Constant_str ⟨.str x,H,I.tok _,⟨_,rfl⟩,h⟩
def Gl (X:Cx) (x:Str):Prop:=X.env.kindOf x=some .globalImplicit
theorem zkd {E:Value→Shared→Prop} {pins:List (Addr×Obj)} {s:Shared} {σ:St} {H:Hp} {x:Str} {u:Value} {pos:Pos} {Q:Value→Shared→Prop} (I:Inv X pins σ H s) (hg:Gl X x) (hm:X.mg x=some u) (h:Q u s)
  (hd:(x==("__debug__" :Str))=false:=by decide):wpAny (model X.prog X.w) X.A (eval (.Name x pos) X.env) Q E s:=
 Calls.Name_function_global I.ok.kind hg (Calls.loadGlobal_global (by rw [I.ok.glob];exact I.mod.glob.keeps I.bk) hm h) hd
theorem ze3 {E:Value→Shared→Prop} {pins:List (Addr×Obj)} {s:Shared} {σ:St} {H:Hp} {x:Str} {u:Value} {pos:Pos} {Q:Value→Shared→Prop} (I:Inv X pins σ H s) (hg:Gl X x) (hm:X.mg x=none) (hv:bootBuiltins x=some u) (h:Q u s)
  (hn:x≠"__name__" :=by decide) (hd:(x==("__debug__" :Str))=false:=by decide):wpAny (model X.prog X.w) X.A (eval (.Name x pos) X.env) Q E s:=by
 obtain ⟨mb,h1,h2⟩:=I.mod.blt
 exact Calls.Name_function_global I.ok.kind hg (Calls.loadGlobal_builtin (by rw [I.ok.glob];exact I.mod.glob.keeps I.bk) hm (by rw [I.ok.blt];exact h1.keeps I.bk) ((h2 x hn).trans hv) h) hd
theorem zh1 {x:Str} {v:V} {u:Value} {pos:Pos} (hg:Gl X x) (hm:X.mg x=some u) (r:RelV v u) (hd:(x==("__debug__" :Str))=false:=by decide):PE X (.Name x pos) (tC v):=
 fun _ _ _ H _ I h=>zkd I hg hm ⟨v,H,I,r,h⟩ hd
theorem zh2 {x:Str} {v:V} {u:Value} {pos:Pos} (hg:Gl X x) (hm:X.mg x=none) (hv:bootBuiltins x=some u) (r:RelV v u) (hn:x≠"__name__" :=by decide) (hd:(x==("__debug__" :Str))=false:=by decide):PE X (.Name x pos) (tC v):=
 fun _ _ _ H _ I h=>ze3 I hg hm hv ⟨v,H,I,r,h⟩ hn hd
variable {a b:Expr} {ta tb:TE} {pos:Pos}
def tB (t:TE):TT:=fun σ H Q=>t σ H fun x H1=> ∃c,x= .bl c∧Q c H1
theorem zwu {e:Expr} {t:TE} (h:PE X e t) (he: ∀whole,isTrue e X.env whole=(do let v ←whole;standAt e.pos;holding [v] (truthy v)):=by intro _;rfl):PT X e (tB t):=by
 intro pins s σ H Q I hw
 refine isTrue_plain (zt (h pins s σ H _ I hw) fun v s1 ⟨x,H1,I1,r1,q1⟩=>?_) (he _)
 obtain ⟨d,rfl,q⟩:=q1
 cases r1
 exact wpAny_truthy_bool ⟨H1,I1,q⟩
variable {tA tB':TT} {rest:List Expr}
def tAnd (t u:TT):TT:=fun σ H Q=>t σ H fun c H1=>if c=true then u σ H1 Q else Q false H1
def tOr (t u:TT):TT:=fun σ H Q=>t σ H fun c H1=>if c=true then Q true H1 else u σ H1 Q
def tNot (t:TT):TT:=fun σ H Q=>t σ H fun c H1=>Q (!c) H1
theorem zt4 (ha:PT X a tA):PW X (.BoolOp .And [a] pos) tA:=by
 intro wh pins s σ H Q I h
 refine isTrue_and (zt (ha pins s σ H Q I h) fun c s1 e=>?_)
 cases c with
 | true=>exact isTrue_and_nil e
 | false=>exact e
theorem zw7 (ha:PT X a tA):PW X (.BoolOp .Or [a] pos) tA:=by
 intro wh pins s σ H Q I h
 refine isTrue_or (zt (ha pins s σ H Q I h) fun c s1 e=>?_)
 cases c with
 | false=>exact isTrue_or_nil e
 | true=>exact e
theorem zv1 (ha:PT X a tA) (hb:PW X (.BoolOp .And (b::rest) pos) tB'):PW X (.BoolOp .And (a::b::rest) pos) (tAnd tA tB'):=by
 intro wh pins s σ H Q I h
 refine isTrue_and (zt (ha pins s σ H _ I h) fun c s1 ⟨H1,I1,q1⟩=>?_)
 cases c with
 | true=>exact hb wh pins s1 σ H1 Q I1 q1
 | false=>exact ⟨H1,I1,q1⟩
theorem zz4 (ha:PT X a tA) (hb:PW X (.BoolOp .Or (b::rest) pos) tB'):PW X (.BoolOp .Or (a::b::rest) pos) (tOr tA tB'):=by
 intro wh pins s σ H Q I h
 refine isTrue_or (zt (ha pins s σ H _ I h) fun c s1 ⟨H1,I1,q1⟩=>?_)
 cases c with
 | true=>exact ⟨H1,I1,q1⟩
 | false=>exact hb wh pins s1 σ H1 Q I1 q1
theorem zw0 (ha:PT X a tA):PT X (.UnaryOp .Not a pos) (tNot tA):=by
 intro pins s σ H Q I h
 exact isTrue_not (ha pins s σ H (fun c H1=>Q (!c) H1) I h)
def zzf (ta tb:TE):TE:=fun σ H Q=>ta σ H fun x H1=> ∃c,x= .bl c∧if c=true then tb σ H1 Q else Q (.bl false) H1
def zzt (ta:TE):TE:=fun σ H Q=>ta σ H fun x H1=> ∃c,x= .bl c∧Q (.bl (!c)) H1
theorem zxi {op} {t:TE} (h:PE X a t):PE X (.BoolOp op [a] pos) t:=fun pins s σ H Q I hw=>BoolOp_one (h pins s σ H Q I hw)
theorem zxo (ha:PE X a ta) (hb:PE X (.BoolOp .And (b::rest) pos) tb):PE X (.BoolOp .And (a::b::rest) pos) (zzf ta tb):=by
 intro pins s σ H Q I h
 refine BoolOp_and (zt (ha pins s σ H _ I h) fun v s1 ⟨x,H1,I1,r1,q1⟩=>?_)
 obtain ⟨c,rfl,q1⟩:=q1
 cases r1
 refine wpAny_truthy_bool ?_
 cases c with
 | true=>exact hb pins s1 σ H1 Q I1 q1
 | false=>exact ⟨.bl false,H1,I1,rfl,q1⟩
theorem zyo (ha:PE X a ta):PE X (.UnaryOp .Not a pos) (zzt ta):=by
 intro pins s σ H Q I h
 refine UnaryOp_ (zt (ha pins s σ H _ I h) fun v s1 ⟨x,H1,I1,r1,q1⟩=>?_)
 obtain ⟨c,rfl,q1⟩:=q1
 cases r1
 exact not_of (wpAny_truthy_bool ⟨.bl (!c),H1,I1,rfl,q1⟩)
end
def SqL (K:PySem.W.Frag) (H:Hp) (a:Addr) (xs:List V):Prop:=
 Rd H a (.lst xs)∨
  ∃(o:Obj) (its:Array Value) (n:Nat),K.lookup a=some o∧o.cls= .type "list" ∧o.dict=none∧o.data= .seq its n∧its.size≤sizeLine∧Vals xs its.toList
def SqT (K:PySem.W.Frag) (H:Hp) (a:Addr) (xs:List V):Prop:=
 Rd H a (.tup xs)∨
  ∃(o:Obj) (its:Array Value) (n:Nat),K.lookup a=some o∧o.cls= .type "tuple" ∧o.data= .seq its n∧its.size≤sizeLine∧Vals xs its.toList
noncomputable def absV:Value→Option V
 | .none=>some .non
 | .bool b=>some (.bl b)
 | .int i _=>some (.int i)
 | .str x _=>some (.str x)
 | .bytes b _=>some (.byt b)
 | .float b _=>some (.flt b)
 | .ref a=>some (.ref a)
 | .type n=>some (.ty n)
 | _=>none
theorem RelV.abs {x:V} {u:Value} (r:RelV x u):absV u=some x:=by
 cases x with
 | non=>cases r;rfl
 | bl _=>cases r;rfl
 | int _=>obtain ⟨t,rfl⟩:=r;rfl
 | str _=>obtain ⟨t,rfl⟩:=r;rfl
 | byt _=>obtain ⟨t,rfl⟩:=r;rfl
 | flt _=>obtain ⟨t,rfl⟩:=r;rfl
 | ref _=>cases r;rfl
 | ty _=>cases r;rfl
theorem RelV.inj {x y:V} {u:Value} (r:RelV x u) (q:RelV y u):x=y:=Option.some.inj (r.abs.symm.trans q.abs)
theorem Vals.inj: ∀{xs ys:List V} {us:List Value},Vals xs us→Vals ys us→xs=ys
 | _,_,_,.nil,.nil=>rfl
 | _,_,_,.cons r t,.cons r' t'=>by rw [r.inj r',Vals.inj t t']
section
variable {X:Cx} {pins:List (Addr×Obj)} {σ:St} {H:Hp} {s:Shared} {a:Addr} {xs ys:List V}
theorem SqL.of {K:PySem.W.Frag} (h:H a=some (.lst xs)):SqL K H a xs:= .inl (.inl h)
theorem SqT.of {K:PySem.W.Frag} (h:H a=some (.tup xs)):SqT K H a xs:= .inl (.inl h)
theorem Inv.list (I:Inv X pins σ H s) (h:SqL X.K H a xs): ∃its:List Value,Vals xs its∧PlainL s.heap a its.toArray∧xs.length≤sizeLine:=by
 rcases h with h | ⟨o,its,n,hk,hc,hd,hs,hz,r⟩
 ·obtain ⟨z,its,n,r,e⟩:=h.ok I.hok
  exact ⟨its,r,⟨_,n,e,rfl,rfl,rfl⟩,z⟩
 ·refine ⟨its.toList,r,⟨o,n,I.kIn a o hk,hc,hd,by simpa using hs⟩,?_⟩
  have e:=r.length
  simp only [Array.length_toList] at e
  omega
theorem Inv.tuple (I:Inv X pins σ H s) (h:SqT X.K H a xs): ∃its:List Value,Vals xs its∧IsTup s.heap a its.toArray∧xs.length≤sizeLine:=by
 rcases h with h | ⟨o,its,n,hk,hc,hs,hz,r⟩
 ·obtain ⟨z,its,r,p⟩:=h.ok I.hok
  exact ⟨its,r,p,z⟩
 ·refine ⟨its.toList,r,⟨o,I.kIn a o hk,hc,n,by simpa using hs⟩,?_⟩
  have e:=r.length
  simp only [Array.length_toList] at e
  omega
theorem Inv.list_inj (I:Inv X pins σ H s) (h:SqL X.K H a xs) (h':SqL X.K H a ys):xs=ys:=by
 obtain ⟨its,r,⟨o,n,e,_,_,d⟩,_⟩:=I.list h
 obtain ⟨its',r',⟨o',n',e',_,_,d'⟩,_⟩:=I.list h'
 rw [e] at e';cases e'
 rw [d] at d'
 injection d' with d1 _
 have:its=its':=by simpa using congrArg Array.toList d1
 subst this
 exact r.inj r'
theorem Inv.tuple_inj (I:Inv X pins σ H s) (h:SqT X.K H a xs) (h':SqT X.K H a ys):xs=ys:=by
 obtain ⟨its,r,⟨o,e,_,n,d⟩,_⟩:=I.tuple h
 obtain ⟨its',r',⟨o',e',_,n',d'⟩,_⟩:=I.tuple h'
 rw [e] at e';cases e'
 rw [d] at d'
 injection d' with d1 _
 have:its=its':=by simpa using congrArg Array.toList d1
 subst this
 exact r.inj r'
end
section
variable {X:Cx} {pins:List (Addr×Obj)} {σ:St} {H:Hp} {s:Shared} {E:Value→Shared→Prop}
end
section
variable {X:Cx} {st:Stmt} {rest:List Stmt} {t u:TS} {e:Expr} {te:TE} {pos:Pos}
def zzu:TS:=fun D σ H=>D.nx σ H
def tSeq (t u:TS):TS:=fun D σ H=>t {D with nx:=u D} σ H
theorem zt5:yR X [] zzu:=fun _ _ σ H _ I h=>wpAny_execs_nil ⟨σ,H,I,h⟩
theorem zr4 (h1:PS X st t) (h2:yR X rest u):yR X (st::rest) (tSeq t u):=by
 intro pins s σ H D I h
 refine wpAny_execs_cons (zt (h1 pins s σ H {D with nx:=u D} I h) fun f s1 q=>?_)
 cases f with
 | next=>
  obtain ⟨σ',H',I',q⟩:=q
  exact h2 pins s1 σ' H' D I' q
 | ret v=>exact q
 | brk=>exact q
 | cont=>exact q
theorem ztj (h1:PS X st t):yR X [st] t:=by
 intro pins s σ H D I h
 refine wpAny_execs_cons (zt (h1 pins s σ H D I h) fun f s1 q=>?_)
 cases f with
 | next=>exact wpAny_execs_nil q
 | ret v=>exact q
 | brk=>exact q
 | cont=>exact q
theorem Inv.quiet {pins:List (Addr×Obj)} {σ:St} {H:Hp} {s:Shared} (I:Inv X pins σ H s):interactive X.env=false:=by simp [interactive,I.ok.kind]
def zzv (te:TE):TS:=fun D σ H=>te σ H fun _ H1=>D.nx σ H1
theorem zkj (he:PE X e te) (hs:swapsWith e none pos.line X.env=pure false:=by rfl):PS X (.Expr e pos) (zzv te):=by
 intro pins s σ H D I h
 exact wpAny_Expr_any (zt (he pins s σ H _ I h) fun v s1 ⟨x,H1,I1,r1,q1⟩=>⟨σ,H1,I1,q1⟩) I.quiet hs
def tRet (te:TE):TS:=fun D σ H=>te σ H D.rt
theorem zsu (he:PE X e te):PS X (.Return (some e) pos) (tRet te):=by
 intro pins s σ H D I h
 exact wpAny_Return_some (zt (he pins s σ H _ I h) fun v s1 ⟨x,H1,I1,r1,q1⟩=>⟨x,σ,H1,I1,r1,q1⟩)
def tIfS (c:TT) (t u:TS):TS:=fun D σ H=>c σ H fun b H1=>if b=true then t D σ H1 else u D σ H1
theorem z0c {c:Expr} {a b:List Stmt} {tc:TT} (hc:PT X c tc) (ha:yR X a t) (hb:yR X b u):PS X (.If c a b pos) (tIfS tc t u):=by
 intro pins s σ H D I h
 refine wpAny_If (zt (hc pins s σ H _ I h) fun d s1 ⟨H1,I1,q1⟩=>?_)
 cases d with
 | true=>exact ha pins s1 σ H1 D I1 q1
 | false=>exact hb pins s1 σ H1 D I1 q1
def zyg:TS:=fun _ _ _=>False
theorem zrf:PS X st zyg:=fun _ _ _ _ _ _ h=>h.elim
end
abbrev TG:=V→St→Hp→(St→Hp→Prop)→Prop
abbrev jb:=List V→St→Hp→(St→Hp→Prop)→Prop
def PG (X:Cx) (target:Expr) (t:TG):Prop:=
 ∀(pins:List (Addr×Obj)) (s:Shared) (σ:St) (H:Hp) (v:V) (u:Value) (Q:St→Hp→Prop),Inv X pins σ H s→RelV v u→t v σ H Q→
  wpAny (model X.prog X.w) X.A (assign target X.env u) (fun _ s'=> ∃σ' H',Inv X pins σ' H' s'∧Q σ' H') X.xe s
def qN (X:Cx) (ts:List Expr) (t:jb):Prop:=
 ∀(pins:List (Addr×Obj)) (s:Shared) (σ:St) (H:Hp) (vs:List V) (us:List Value) (Q:St→Hp→Prop),Inv X pins σ H s→Vals vs us→t vs σ H Q→
  wpAny (model X.prog X.w) X.A (assignInOrder ((assignEach ts X.env).map (·.2)) us) (fun _ s'=> ∃σ' H',Inv X pins σ' H' s'∧Q σ' H') X.xe s
abbrev TSet:=V→V→V→Hp→(Hp→Prop)→Prop
def PSet (X:Cx) (t:TSet):Prop:=
 ∀(pins:List (Addr×Obj)) (s:Shared) (σ:St) (H:Hp) (o i v:V) (ov iv u:Value) (Q:Hp→Prop),Inv X pins σ H s→RelV o ov→RelV i iv→RelV v u→t o i v H Q→
  wpAny (model X.prog X.w) X.A (setItem ov iv u) (fun _ s'=> ∃H',Inv X pins σ H' s'∧Q H') X.xe s
abbrev TIp:=V→V→Hp→VK→Prop
def PIp (X:Cx) (op:Operator) (t:TIp):Prop:=
 ∀(pins:List (Addr×Obj)) (s:Shared) (σ:St) (H:Hp) (x y:V) (v u:Value) (Q:VK),Inv X pins σ H s→RelV x v→RelV y u→t x y H Q→
  wpAny (model X.prog X.w) X.A (inplaceOp op v u) (EP X pins σ Q) X.xe s
section
variable {X:Cx} {pos:Pos}
def zpt (i:Nat):TG:=fun v σ H Q=>Q (σ.set i (some v)) H
theorem zW {i:Nat} {x:Str} (hN:X.N.Nodup) (hi:X.N[i]? =some x) (hx:Loc X.env.scope x) (hf:X.fn x=true∨X.env.scope.names.lookup x=some .local:=by first | exact .inl rfl | exact .inr rfl | assumption):PG X (.Name x pos) (zpt i):=by
 intro pins s σ H v u Q I r h
 exact wpAny_assign_Name (zfy I hN hi hx r (fun s' I'=>⟨_,H,I',h⟩) hf)
def gNil:jb:=fun vs σ H Q=>vs=[]∧Q σ H
def zwy (t:TG) (u:jb):jb:=fun vs σ H Q=> ∃v r,vs=v::r∧t v σ H fun σ' H'=>u r σ' H' Q
theorem zu1:qN X [] gNil:=by
 intro pins s σ H vs us Q I r h
 obtain ⟨e,h⟩:=h
 subst e
 cases r
 exact assignInOrder_nil ⟨σ,H,I,h⟩
theorem zZ {e:Expr} {es:List Expr} {t:TG} {u:jb} (h1:PG X e t) (h2:qN X es u)
  (hs:(assignEach (e::es) X.env).map (·.2)=assign e X.env::(assignEach es X.env).map (·.2):=by rfl):qN X (e::es) (zwy t u):=by
 intro pins s σ H vs us Q I r h
 obtain ⟨v,vr,e1,h⟩:=h
 subst e1
 cases r with
 | cons r rr=>
  rw [hs]
  refine assignInOrder_cons (zt (h1 pins s σ H _ _ _ I r h) fun _ s1 ⟨σ1,H1,I1,q1⟩=>?_)
  exact h2 pins s1 σ1 H1 _ _ Q I1 rr q1
def gTup (K:PySem.W.Frag) (n:Nat) (t:jb):TG:=fun v σ H Q=> ∃a xs,v= .ref a∧SqT K H a xs∧xs.length=n∧t xs σ H Q
theorem qH {es:List Expr} {k:Nat} {t:jb} {n:Nat} (hc:X.calm=true) (h:qN X es t)
  (hn:(assignEach es X.env).length=n:=by rfl) (hst:(assignEach es X.env).findIdx? (·.1)=none:=by rfl):PG X (.Tuple es k pos) (gTup X.K n t):=by
 intro pins s σ H v u Q I r hw
 obtain ⟨a,xs,e1,hq,hl,hw⟩:=hw
 subst e1
 cases r
 obtain ⟨its,rv,ht,hz⟩:=I.tuple hq
 refine assign_Tuple_tuple (I.ok.hd hc) ht (by simp [hn,←hl,rv.length]) hst fun h' hx=>?_
 have I1:Inv X pins σ H {s with heap:=h'}:=I.kept (t':=s.toks) fun b o e=>hx b o (Nat.ne_of_lt (Heap.lt_size e)) e
 exact h pins _ σ H xs _ Q I1 (by simpa using rv) hw
def gSub (to ti:TE) (t:TSet):TG:=fun v σ H Q=>to σ H fun o H1=>ti σ H1 fun i H2=>t o i v H2 fun H3=>Q σ H3
theorem zs4 {o i:Expr} {to ti:TE} {t:TSet} (ho:PE X o to) (hi:PE X i ti) (hs:PSet X t)
  (ha: ∀v,assign (.Subscript o i pos) X.env v=(do
   let ov ←holding [v] (eval o X.env)
   let iv ←holding [v,ov] (eval i X.env)
   standAt pos
   holding [v,ov,iv] (setItem ov iv v)
   release [v,ov,iv] []):=by intro _;rfl):PG X (.Subscript o i pos) (gSub to ti t):=by
 intro pins s σ H v u Q I r h
 rw [ha]
 refine wpAny_bind (wpAny_holding (zt (ho pins s σ H _ I h) fun ov s1 ⟨x,H1,I1,r1,q1⟩=>?_))
 refine wpAny_bind (wpAny_holding (zt (hi pins s1 σ H1 _ I1 q1) fun iv s2 ⟨y,H2,I2,r2,q2⟩=>?_))
 refine wpAny_bind (wpAny_standAt (wpAny_bind (wpAny_holding (zt (hs pins s2 σ H2 x y v ov iv u _ I2 r1 r2 r q2) fun _ s3 ⟨H3,I3,q3⟩=>?_))))
 exact wpAny_release ⟨σ,H3,I3,q3⟩
def tAsg (te:TE) (g:TG):TS:=fun D σ H=>te σ H fun x H1=>g x σ H1 D.nx
theorem zlx {tg e:Expr} {te:TE} {g:TG} (he:PE X e te) (hg:PG X tg g) (hs:swapsWithSole [tg] e pos.line X.env=pure false:=by rfl) (hw:swappedStores [tg] e X.env=pure none:=by rfl)
  (h1:(assignEach [tg] X.env).map (·.2)=[assign tg X.env]:=by rfl):PS X (.Assign [tg] e pos) (tAsg te g):=by
 intro pins s σ H D I h
 refine wpAny_Assign_stores (zt (he pins s σ H _ I h) fun v s1 ⟨x,H1,I1,r1,q1⟩=>?_) hs hw
 rw [h1]
 exact zt (hg pins s1 σ H1 x v _ I1 r1 q1) fun _ s2 q=>q
theorem zwb {i:Nat} {x:Str} {e:Expr} {te:TE} {pos':Pos} (hN:X.N.Nodup) (hi:X.N[i]? =some x) (hx:Loc X.env.scope x) (he:PE X e te) (hs:swapsWith e (some (.Name x pos')) pos.line X.env=pure false:=by rfl) (hf:X.fn x=true∨X.env.scope.names.lookup x=some .local:=by first | exact .inl rfl | exact .inr rfl | assumption):
  PS X (.Assign [.Name x pos'] e pos) (tAsg te (zpt i)):=by
 intro pins s σ H D I h
 refine wpAny_Assign_Name (zt (he pins s σ H _ I h) fun v s1 ⟨y,H1,I1,r1,q1⟩=>?_) hs
 exact zfy I1 hN hi hx r1 (fun s2 I2=>⟨_,H1,I2,q1⟩) hf
def tAug (i:Nat) (te:TE) (ti:TIp):TS:=fun D σ H=> ∃x,σ[i]? =some (some x)∧te σ H fun y H1=>ti x y H1 fun z H2=>D.nx (σ.set i (some z)) H2
theorem zym {i:Nat} {x:Str} {e:Expr} {te:TE} {op:Operator} {ti:TIp} {pos':Pos} (hN:X.N.Nodup) (hi:X.N[i]? =some x) (hx:Loc X.env.scope x) (he:PE X e te) (ho:PIp X op ti) (hf:X.fn x=true∨X.env.scope.names.lookup x=some .local:=by first | exact .inl rfl | exact .inr rfl | assumption):
  PS X (.AugAssign (.Name x pos') op e pos) (tAug i te ti):=by
 intro pins s σ H D I h
 obtain ⟨v,e1,h⟩:=h
 obtain ⟨m,hn,hl⟩:=I.loc
 have vis:Vis X.env.scope x:=by rcases hx with k | k;exact .inl k;exact .inr (.inl k)
 obtain ⟨u,r,l⟩:=hl i x v hi e1 vis
 refine wpAny_AugAssign_Name ?_
 have go:wpAny (model X.prog X.w) X.A (eval e X.env) (fun w s₂=>wpAny (model X.prog X.w) X.A (inplaceOp op u w) (fun r s₃=>wpAny (model X.prog X.w) X.A (storeName X.env x r) (fun _=>SP X pins D .next) X.xe s₃) X.xe s₂) X.xe s:=by
  refine zt (he pins s σ H _ I h) fun w s1 ⟨y,H1,I1,r1,q1⟩=>?_
  refine zt (ho pins s1 σ H1 v y u w _ I1 r r1 q1) fun z s2 ⟨zv,H2,I2,r2,q2⟩=>?_
  exact zfy I2 hN hi hx r2 (fun s3 I3=>⟨_,H2,I3,q2⟩) hf
 rcases l with ⟨hk,hm⟩ | ⟨hk,c,hc,hcell⟩
 ·exact wpAny_loadName_local I.ok.kind hk hn hm go
 ·rcases hk with hk | hk
  ·exact wpAny_loadName_cell I.ok.kind hk hc hcell go
  ·rcases hx with k | k
   ·have:X.env.scope.names.lookup x=some .free:=hk
    rw [k] at this;cases this
   ·have:X.env.scope.names.lookup x=some .free:=hk
    rw [k] at this;cases this
def ipI (f:Int→Int→Int):TIp:=fun x y H Q=> ∃i j,x= .int i∧y= .int j∧Q (.int (f i j)) H
theorem zwt:PIp X .Add (ipI fun i j=>i+j):=by
 intro pins s σ H x y v u Q I r1 r2 h
 obtain ⟨i,j,e1,e2,q⟩:=h
 subst e1;subst e2
 obtain ⟨t,rfl⟩:=r1
 obtain ⟨t',rfl⟩:=r2
 exact iadd_int ⟨.int _,H,I.tok _,⟨_,rfl⟩,q⟩
end
section
variable {X:Cx} {pos:Pos}
end
structure It where
 go:Nat→Hp→Prop
 yld:Nat→Hp→V→Hp→Prop
 stop:Nat→Hp→Prop
def yH (X:Cx) (pins:List (Addr×Obj)) (H:Hp) (b:Addr):Prop:=
 H b=none∧b≠X.env.locals∧b∉X.fs∧(b∈X.ex∨X.s₀.heap.objs.size≤b)∧(∀x c,X.env.cells.lookup x=some c→c≠b)∧∀p∈X.pn++pins,p.1≠b
theorem Inv.fpOk {X:Cx} {pins:List (Addr×Obj)} {σ:St} {H H':Hp} {s:Shared} {b:Addr} (I:Inv X pins σ H s) (hb:s.heap.objs.size≤b) (hn:H' b=none):yH X pins H' b:=by
 refine ⟨hn,Nat.ne_of_gt (Nat.lt_of_lt_of_le I.lt hb),I.nofs hb,.inr (Nat.le_trans I.sz hb),fun x c e z=>?_,fun p hp z=>?_⟩
 ·obtain ⟨v,q⟩:=I.cell x c e
  exact absurd (Nat.lt_of_lt_of_le q.lt (by rw [z];exact hb)) (Nat.lt_irrefl _)
 ·exact absurd (Nat.lt_of_lt_of_le (Heap.lt_size (I.pin p hp).1) (by rw [z];exact hb)) (Nat.lt_irrefl _)
structure Turn (P:Program) (w:World) (K:PySem.W.Frag) (tg:Expr) (J:It) (fp:List Addr) (it:Addr) (tn:Nat→Heap→Prop):Prop where
 mem:it∈fp
 obj: ∀i h,tn i h→∀b∈fp,∃o,h.get? b=some o∧∀v,o.data≠ .cell v
 keep: ∀i h h',tn i h→(∀b∈fp,∀o,h.get? b=some o→h'.get? b=some o)→tn i h'
 item: ∀(X:Cx),X.prog=P→X.w=w→X.K=K→X.calm=true→∀(i:Nat) (pins:List (Addr×Obj)) (s:Shared) (σ:St) (H:Hp) (E:Value→Shared→Prop),Inv X pins σ H s→(∀b∈fp,yH X pins H b)→tn i s.heap→J.go i H→
  wpAny (model P w) X.A (pyNext (.ref it)) (fun r s1=> ∃u,r=some u∧
   wpAny (model P w) X.A (letOwnedTupleGo tg (.ref it) u) (fun _ s2=> ∃x H',Inv X pins σ H' s2∧RelV x u∧J.yld i H x H'∧tn (i+1) s2.heap∧∀b∈fp,H' b=none) E s1) E s
 done: ∀(X:Cx),X.prog=P→X.w=w→X.K=K→X.calm=true→∀(i:Nat) (pins:List (Addr×Obj)) (s:Shared) (σ:St) (H:Hp) (E:Value→Shared→Prop),Inv X pins σ H s→(∀b∈fp,yH X pins H b)→tn i s.heap→J.stop i H→
  wpAny (model P w) X.A (pyNext (.ref it)) (fun r s1=>r=none∧Inv X pins σ H s1) E s
 self: ∀(A:Around) (i:Nat) (s:Shared) (Q:Value→Shared→Prop) (E:Value→Shared→Prop),tn i s.heap→Q (.ref it) s→wpAny (model P w) A (pyIter (.ref it)) Q E s
abbrev TI:=St→Hp→(It→Hp→Prop)→Prop
def PIE (X:Cx) (pins:List (Addr×Obj)) (σ:St) (tg:Expr) (R:It→Hp→Prop) (itv:Value) (s2:Shared):Prop:=
 ∃(it:Addr) (fp:List Addr) (tn:Nat→Heap→Prop) (J:It) (H':Hp),itv= .ref it∧Inv X pins σ H' s2∧Turn X.prog X.w X.K tg J fp it tn∧tn 0 s2.heap∧(∀b∈fp,yH X pins H' b)∧R J H'
def PI (X:Cx) (tg iter:Expr) (wi:TI):Prop:=
 ∀(pins:List (Addr×Obj)) (s:Shared) (σ:St) (H:Hp) (R:It→Hp→Prop),Inv X pins σ H s→wi σ H R→
  wpAny (model X.prog X.w) X.A (eval iter X.env) (fun v s1=>wpAny (model X.prog X.w) X.A (pyIter v) (PIE X pins σ tg R) X.xe s1) X.xe s
theorem zun {M:Model} {A:Around} {E:Value→Shared→Prop} {s:Shared} {tg:Expr} {it:Addr} {u:Value} {o:Obj} {n:String} {vs:Array Value} {Q:Unit→Shared→Prop} (ho:s.heap.get? it=some o) (hc:o.cls= .type n) (hd:o.data= .fields vs)
    (hn:["enumerate","zip","dict_itemiterator","dict_reverseitemiterator","odict_iterator","itertools.zip_longest","itertools.pairwise"].contains n=false) (hQ:Q () s):wpAny M A (letOwnedTupleGo tg (.ref it) u) Q E s:=by
  unfold letOwnedTupleGo
  cases tg <;> first
    | exact wpAny_pure hQ
    | (cases u <;> first
        | exact wpAny_pure hQ
        | (refine wpAny_bind (wpAny_load ho ?_)
           rw [hc,hd]
           show wpAny M A (if (["enumerate","zip","dict_itemiterator","dict_reverseitemiterator","odict_iterator","itertools.zip_longest","itertools.pairwise"].contains n && vs[0]? ==some (rawInt _))=true then _ else _) Q E s
           rw [if_neg (by intro h;rw [hn,Bool.false_and] at h;cases h)]
           exact wpAny_pure hQ))
def Itl (K:PySem.W.Frag) (a:Addr):It:=
 ⟨fun i H=> ∃xs x,SqL K H a xs∧xs[i]? =some x,fun i H x H'=>H'=H∧∀xs,SqL K H a xs→xs[i]? =some x,fun i H=> ∃xs,SqL K H a xs∧xs.length≤i⟩
def Itr (lo:Int) (n:Nat):It:=⟨fun i _=>i < n,fun i H x H'=>H'=H∧x= .int (lo+i),fun i _=>n≤i⟩
theorem zps {P:Program} {w:World} {K:PySem.W.Frag} {tg:Expr} (a it:Addr):Turn P w K tg (Itl K a) [it] it (fun i h=>h.IsListIter it a i) where
 mem:=by simp
 obj:=fun i h st b hb=>by
  have e:b=it:=by simpa using hb
  subst e
  obtain ⟨o,e,c,d⟩:=st
  exact ⟨o,e,fun v z=>by rw [d] at z;cases z⟩
 keep:=fun i h h' st k=>st.at fun o e=>k it (by simp) o e
 item:=by
  intro X hP hw hK hc i pins s σ H E I hf st hg
  subst hP hw hK
  obtain ⟨xs,x,hq,hx⟩:=hg
  obtain ⟨its,rv,p,hz⟩:=I.list hq
  obtain ⟨u,hu,ru⟩:=rv.get hx
  obtain ⟨f0,f1,f2,f3,f4,f5⟩:=hf it (by simp)
  refine wpAny_pyNext_list_item st p.isList (x:=u) (by simpa using hu) fun h' st' sb=>?_
  have I1:Inv X pins σ H {s with heap:=h'}:=I.turned (t':=s.toks) (fun b o hb e=>(sb.2 b hb).trans e) f0 f1 f3 f4 f5
  obtain ⟨o,e,c,d⟩:=id st'
  exact ⟨u,rfl,zun (s:={s with heap:=h'}) e c d (by decide) ⟨x,H,I1,ru,⟨rfl,fun ys hy=>by rw [I.list_inj hy hq];exact hx⟩,st',fun b hb=>(hf b hb).1⟩⟩
 done:=by
  intro X hP hw hK hc i pins s σ H E I hf st hg
  subst hP hw hK
  obtain ⟨xs,hq,hx⟩:=hg
  obtain ⟨its,rv,p,hz⟩:=I.list hq
  obtain ⟨f0,f1,f2,f3,f4,f5⟩:=hf it (by simp)
  have hl:=rv.length
  exact wpAny_pyNext_list_end (I.ok.hd hc) st p.isList (by simp;omega) fun h' eb=>⟨rfl,I.turned (t':=s.toks) (fun b o hb e=>eb b o hb e) f0 f1 f3 f4 f5⟩
 self:=fun _ _ _ _ _ st h=>wpAny_pyIter_listiter st h
theorem znh {P:Program} {w:World} {K:PySem.W.Frag} {tg:Expr} (it:Addr) (lo:Int) (n:Nat):Turn P w K tg (Itr lo n) [it] it (fun i h=>IsRangeIter h it (lo+(i:Nat)*1) ((n:Int) - (i:Nat)) 1) where
 mem:=by simp
 obj:=fun i h st b hb=>by
  have e:b=it:=by simpa using hb
  subst e
  exact ⟨_,st,fun v z=>by
   have z':Data.fields _=Data.cell v:=z
   cases z'⟩
 keep:=fun i h h' st k=>k it (by simp) _ st
 item:=by
  intro X hP hw hK hc i pins s σ H E I hf st hg
  subst hP hw hK
  obtain ⟨f0,f1,f2,f3,f4,f5⟩:=hf it (by simp)
  have W:=Walks.range (prog:=X.prog) (w:=X.w) (I.ok.hd hc) it lo 1 n
  refine W.item i s _ _ hg st fun v h' tk hv st' kk=>?_
  obtain ⟨t,rfl⟩:=hv
  have I1:Inv X pins σ H {s with heap:=h',toks:=tk}:=I.turned (fun b o hb e=>kk b o (by simpa using hb) e) f0 f1 f3 f4 f5
  refine ⟨_,rfl,zun (s:={s with heap:=h',toks:=tk}) (n:="range_iterator") st' rfl rfl (by decide) ⟨.int (lo+i),H,I1,⟨t,?_⟩,⟨rfl,rfl⟩,st',fun b hb=>(hf b hb).1⟩⟩
  rw [Int.mul_one]
 done:=by
  intro X hP hw hK hc i pins s σ H E I hf st hg
  subst hP hw hK
  obtain ⟨f0,f1,f2,f3,f4,f5⟩:=hf it (by simp)
  exact wpAny_pyNext_range_end (I.ok.hd hc) st (by have:n≤i:=hg;omega) fun h' eb=>⟨rfl,I.turned (t':=s.toks) (fun b o hb e=>eb b o hb e) f0 f1 f3 f4 f5⟩
 self:=fun _ _ _ _ _ st h=>wpAny_pyIter_rangeiter st h
section
variable {X:Cx} {tg:Expr}
def zzp (K:PySem.W.Frag) (tl:TE):TI:=fun σ H R=>tl σ H fun x H1=> ∃a,x= .ref a∧(∃xs,SqL K H1 a xs)∧R (Itl K a) H1
theorem zva {l:Expr} {tl:TE} (hl:PE X l tl):PI X tg l (zzp X.K tl):=by
 intro pins s σ H R I h
 refine zt (hl pins s σ H _ I h) fun v s1 ⟨x,H1,I1,r1,q1⟩=>?_
 obtain ⟨a,e,⟨xs,hq⟩,q⟩:=q1
 subst e
 cases r1
 obtain ⟨its,rv,p,hz⟩:=I1.list hq
 refine wpAny_pyIter_list p.isList ?_
 refine ⟨s1.heap.objs.size,[s1.heap.objs.size],_,_,H1,rfl,I1.kept (t':=s1.toks) fun b o e=>Heap.get?_push_of_some _ e,zps a _,⟨_,Heap.get?_push_size _ rfl,rfl,rfl⟩,fun b hb=>?_,q⟩
 have e:b=s1.heap.objs.size:=by simpa using hb
 subst e
 exact I1.fpOk (Nat.le_refl _) (I1.hok.fresh (Nat.le_refl _))
theorem zlj {pins:List (Addr×Obj)} {σ:St} {H:Hp} {s:Shared} {R:It→Hp→Prop} {E:Value→Shared→Prop} {lo hi:Int} {t u v:Tok} {tk:Nat} (I:Inv X pins σ H s) (h1: -(2 ^ 62)≤lo) (h2:lo < 2 ^ 62) (h3: -(2 ^ 62)≤hi) (h4:hi < 2 ^ 62)
  (q:R (Itr lo (hi - lo).toNat) H):wpAny (model X.prog X.w) X.A (pyIter (.ref s.heap.objs.size)) (PIE X pins σ tg R) E {s with heap:=s.heap.push {cls:= .type "range",data:= .fields #[.int lo t,.int hi u,.int 1 v]},toks:=tk}:=by
 refine wpAny_pyIter_range (IsRange.new ..) (small_one h1 h2 h3 h4) ?_
 have I1:Inv X pins σ H {s with heap:=s.heap.push {cls:= .type "range",data:= .fields #[.int lo t,.int hi u,.int 1 v]},toks:=tk}:=I.kept fun b o e=>Heap.get?_push_of_some _ e
 refine ⟨(s.heap.push {cls:= .type "range",data:= .fields #[.int lo t,.int hi u,.int 1 v]}).objs.size,[(s.heap.push {cls:= .type "range",data:= .fields #[.int lo t,.int hi u,.int 1 v]}).objs.size],_,_,H,rfl,
  I1.kept (t':=tk) fun b o e=>Heap.get?_push_of_some _ e,znh _ lo (hi - lo).toNat,?_,fun b hb=>?_,q⟩
 ·have e1:lo+((0:Nat):Int)*1=lo:=by simp
  have e2:(((hi - lo).toNat:Nat):Int) - ((0:Nat):Int)=Builtin.Range.rangeSize lo hi 1:=by rw [rangeSize_one];split <;> omega
  show IsRangeIter _ _ (lo+((0:Nat):Int)*1) ((((hi - lo).toNat:Nat):Int) - ((0:Nat):Int)) 1
  rw [e1,e2]
  exact Heap.get?_push_size _ rfl
 ·have e:b=(s.heap.push {cls:= .type "range",data:= .fields #[.int lo t,.int hi u,.int 1 v]}).objs.size:=by simpa using hb
  subst e
  exact I1.fpOk (Nat.le_refl _) (I1.hok.fresh (Nat.le_refl _))
def zz3 (ta:TA):TI:=fun σ H R=>ta σ H fun vs H1=> ∃j:Int,vs=[.int j]∧ -(2 ^ 62)≤j∧j < 2 ^ 62∧R (Itr 0 j.toNat) H1
def zzb (ta:TA):TI:=fun σ H R=>ta σ H fun vs H1=> ∃i j:Int,vs=[.int i,.int j]∧(-(2 ^ 62)≤i∧i < 2 ^ 62∧ -(2 ^ 62)≤j∧j < 2 ^ 62)∧R (Itr i (j - i).toNat) H1
theorem zpx {a:Expr} {ta:TA} {p pos:Pos} (hg:Gl X "range") (hm:X.mg "range" =none) (ha:PA X [a] ta) (hs:starEach [a] X.env=[(false,eval a X.env)]:=by rfl):PI X tg (.Call (.Name "range" p) [a] [] pos) (zz3 ta):=by
 intro pins s σ H R I h
 refine Call_ (ze3 I hg hm boot_range (PyProof.Rows.callWith_type1 (zt (ha pos pins s σ H _ I h) fun us s1 ⟨vs,H1,I1,r1,q1⟩=>?_) hs rfl))
 obtain ⟨j,e,q1,q2,q⟩:=q1
 subst e
 cases r1 with
 | cons r rr=>
  cases rr
  obtain ⟨t,rfl⟩:=r
  exact call_range_1 (zlj I1 (by omega) (by omega) q1 q2 (by simpa using q))
theorem znv {a b:Expr} {ta:TA} {p pos:Pos} (hg:Gl X "range") (hm:X.mg "range" =none) (ha:PA X [a,b] ta) (hs:starEach [a,b] X.env=[(false,eval a X.env),(false,eval b X.env)]:=by rfl) (hs2:starEach [b] X.env=[(false,eval b X.env)]:=by rfl):
  PI X tg (.Call (.Name "range" p) [a,b] [] pos) (zzb ta):=by
 intro pins s σ H R I h
 refine Call_ (ze3 I hg hm boot_range (PyProof.Rows.callWith_type1 (zt (ha pos pins s σ H _ I h) fun us s1 ⟨vs,H1,I1,r1,q1⟩=>?_) (by rw [hs,hs2]) (by rw [hs2];rfl)))
 obtain ⟨i,j,e,⟨q1,q2,q3,q4⟩,q⟩:=q1
 subst e
 cases r1 with
 | cons r rr=>
  cases rr with
  | cons r' rr=>
   cases rr
   obtain ⟨t,rfl⟩:=r
   obtain ⟨t',rfl⟩:=r'
   exact call_range_2 (zlj I1 q1 q2 q3 q4 q)
def tFor (wi:TI) (g:TG) (tb:TS):TS:=fun D σ H=>wi σ H fun J H1=> ∃W:Nat→Nat→St→Hp→Prop,(∃m,W 0 m σ H1)∧∀i m σ H,W i m σ H→
 (J.stop i H∧D.nx σ H)∨(J.go i H∧∃N:St→Hp→Prop,(∀σ' H',N σ' H'→∃m',m' < m∧W (i+1) m' σ' H')∧∀x H',J.yld i H x H'→g x σ H' fun σ2 H2=>tb {D with nx:=N,ct:=N,bk:=D.nx} σ2 H2)
def zjj (fp:List Addr) (h:Heap):List (Addr×Obj):=fp.filterMap fun b=>(h.get? b).map fun o=>(b,o)
theorem zd7 {fp:List Addr} {h:Heap} {b:Addr} {o:Obj} (hb:b∈fp) (e:h.get? b=some o):(b,o)∈zjj fp h:=List.mem_filterMap.mpr ⟨b,hb,by rw [e];rfl⟩
theorem zpr {fp:List Addr} {h:Heap} {p:Addr×Obj} (hp:p∈zjj fp h):p.1∈fp∧h.get? p.1=some p.2:=by
 obtain ⟨b,hb,e⟩:=List.mem_filterMap.mp hp
 cases q:h.get? b with
 | none=>rw [q] at e;cases e
 | some o=>
  rw [q] at e
  have e':(b,o)=p:=Option.some.inj e
  subst e'
  exact ⟨hb,q⟩
theorem Inv.pinned {pins:List (Addr×Obj)} {σ:St} {H:Hp} {s:Shared} {fp:List Addr} (I:Inv X pins σ H s) (hf: ∀b∈fp,yH X pins H b) (ho: ∀b∈fp,∃o,s.heap.get? b=some o∧∀v,o.data≠ .cell v):Inv X (pins++zjj fp s.heap) σ H s:=
 I.pins_of fun p hp=>(List.mem_append.mp hp).elim (fun z=>I.pin p (List.mem_append_right _ z)) fun z=>by
  obtain ⟨hb,e⟩:=zpr z
  obtain ⟨f0,f1,f2,_⟩:=hf p.1 hb
  obtain ⟨o,e',d⟩:=ho p.1 hb
  rw [e] at e';cases e'
  exact ⟨e,f0,f1,f2,d⟩
theorem Inv.unpinned {pins pl:List (Addr×Obj)} {σ:St} {H:Hp} {s:Shared} (I:Inv X (pins++pl) σ H s):Inv X pins σ H s:=I.pins_of fun p hp=>I.pin p (List.mem_append_right _ (List.mem_append_left _ hp))
theorem zwd {iter:Expr} {body:List Stmt} {wi:TI} {g:TG} {tb:TS} {pos:Pos} (hp:PassesOwn (model X.prog X.w) X.A X.env X.xe) (hc:X.calm=true) (hi:PI X tg iter wi) (hg:PG X tg g) (hb:yR X body tb)
  (hs: ∀x,foldedSetIterable iter X.env x=pure x:=by intro _;rfl):PS X (.For tg iter body [] pos) (tFor wi g tb):=by
 intro pins s σ H D I h
 refine wpAny_For (zt (hi pins s σ H _ I h) fun v s1 h1=>zt h1 fun itv s2 h2=>?_) hs
 obtain ⟨it,fp,tn,J,H2,e,I2,T,st2,f2,W,⟨m0,w0⟩,turn⟩:=h2
 subst e
 have stat: ∀{H':Hp},(∀b∈fp,H' b=none)→∀b∈fp,yH X pins H' b:=fun hn b hb=>⟨hn b hb,(f2 b hb).2⟩
 refine codeAny_forLoop_any (fun n s'=> ∃i σ' H',Inv X pins σ' H' s'∧tn i s'.heap∧(∀b∈fp,H' b=none)∧W i n σ' H') ?_ m0 ⟨0,σ,H2,I2,st2,fun b hb=>(f2 b hb).1,w0⟩
 rintro n s3 ⟨i,σ3,H3,I3,st3,fr3,w3⟩
 rcases turn i n σ3 H3 w3 with ⟨stop,qn⟩ | ⟨go,N,hN,step⟩
 ·refine wpAny_passesOwn hp (zt (T.done X rfl rfl rfl hc i pins s3 σ3 H3 X.xe I3 (stat fr3) st3 stop) fun r s4 ⟨hr,I4⟩=>?_)
  subst hr
  exact wpAny_execs_nil ⟨σ3,H3,I4,qn⟩
 ·refine wpAny_passesOwn hp (zt (T.item X rfl rfl rfl hc i pins s3 σ3 H3 X.xe I3 (stat fr3) st3 go) fun r s4 ⟨u,hr,h4⟩=>?_)
  subst hr
  refine wpAny_passesOwn hp (zt h4 fun _ s5 ⟨x,H5,I5,r5,y5,st5,fr5⟩=>?_)
  have I5':=I5.pinned (stat fr5) (T.obj _ _ st5)
  refine wpAny_passesOwn hp (zt (hg _ s5 σ3 H5 x u _ I5' r5 (step x H5 y5)) fun _ s6 ⟨σ6,H6,I6,q6⟩=>?_)
  refine wpAny_passesOwn hp (zt (hb _ s6 σ6 H6 _ I6 q6) fun f s7 q7=>?_)
  have again: ∀{σ7:St} {H7:Hp},Inv X (pins++zjj fp s5.heap) σ7 H7 s7→N σ7 H7→∃m,m < n∧∃i σ' H',Inv X pins σ' H' s7∧tn i s7.heap∧(∀b∈fp,H' b=none)∧W i m σ' H':=fun {σ7 H7} I7 n7=>by
   obtain ⟨m',hm,w7⟩:=hN σ7 H7 n7
   refine ⟨m',hm,i+1,σ7,H7,I7.unpinned,T.keep _ _ _ st5 fun b hb o e=>(I7.pin (b,o) (List.mem_append_right _ (List.mem_append_right _ (zd7 hb e)))).1,fun b hb=>?_,w7⟩
   obtain ⟨o,e,d⟩:=T.obj _ _ st5 b hb
   exact (I7.pin (b,o) (List.mem_append_right _ (List.mem_append_right _ (zd7 hb e)))).2.1
  cases f with
  | next=>obtain ⟨σ7,H7,I7,n7⟩:=q7;exact again I7 n7
  | cont=>obtain ⟨σ7,H7,I7,n7⟩:=q7;exact again I7 n7
  | brk=>obtain ⟨σ7,H7,I7,q7⟩:=q7;exact ⟨σ7,H7,I7.unpinned,q7⟩
  | ret v=>obtain ⟨x7,σ7,H7,I7,r7,q7⟩:=q7;exact ⟨x7,σ7,H7,I7.unpinned,r7,q7⟩
end
abbrev R2:=V→V→Hp→VK→Prop
def OpR (X:Cx) (f:Value→Value→Sem Value) (r:R2):Prop:=
 ∀(pins:List (Addr×Obj)) (s:Shared) (σ:St) (H:Hp) (x y:V) (v u:Value) (Q:VK),Inv X pins σ H s→RelV x v→RelV y u→r x y H Q→
  wpAny (model X.prog X.w) X.A (f v u) (EP X pins σ Q) X.xe s
def UnR (X:Cx) (f:Value→Sem Value) (r:V→Hp→VK→Prop):Prop:=
 ∀(pins:List (Addr×Obj)) (s:Shared) (σ:St) (H:Hp) (x:V) (v:Value) (Q:VK),Inv X pins σ H s→RelV x v→r x H Q→
  wpAny (model X.prog X.w) X.A (f v) (EP X pins σ Q) X.xe s
def CallR (X:Cx) (f:Value) (r:List V→Hp→VK→Prop):Prop:=
 ∀(pins:List (Addr×Obj)) (s:Shared) (σ:St) (H:Hp) (xs:List V) (us:List Value) (Q:VK),Inv X pins σ H s→Vals xs us→r xs H Q→
  wpAny (model X.prog X.w) X.A (call f us) (EP X pins σ Q) X.xe s
def TruR (X:Cx) (r:V→Hp→(Bool→Hp→Prop)→Prop):Prop:=
 ∀(pins:List (Addr×Obj)) (s:Shared) (σ:St) (H:Hp) (x:V) (v:Value) (Q:Bool→Hp→Prop),Inv X pins σ H s→RelV x v→r x H Q→
  wpAny (model X.prog X.w) X.A (truthy v) (TP X pins σ Q) X.xe s
def tOp (r:R2) (ta tb:TE):TE:=fun σ H Q=>ta σ H fun x H1=>tb σ H1 fun y H2=>r x y H2 Q
def tUn (r:V→Hp→VK→Prop) (ta:TE):TE:=fun σ H Q=>ta σ H fun x H1=>r x H1 Q
def rI (C:Int→Int→Prop) (g:Int→Int→V):R2:=fun x y H Q=> ∃i j,x= .int i∧y= .int j∧C i j∧Q (g i j) H
def qh (g:Int→Int→V):R2:=fun x y H Q=> ∃i j,x= .int i∧y= .int j∧Q (g i j) H
def rU (g:Int→V):V→Hp→VK→Prop:=fun x H Q=> ∃i,x= .int i∧Q (g i) H
section
variable {X:Cx} {a b c:Expr} {ta tb tc:TE} {pos:Pos}
theorem binT (ha:PE X a ta) (hb:PE X b tb) {pins:List (Addr×Obj)} {s:Shared} {σ:St} {H:Hp} {R:V→V→Hp→Prop} (I:Inv X pins σ H s)
  (h:ta σ H fun x H1=>tb σ H1 fun y H2=>R x y H2) {Q:Value→Shared→Prop} {f:Value→Value→Sem Value}
  (hf: ∀v u s2 x y H2,Inv X pins σ H2 s2→RelV x v→RelV y u→R x y H2→wpAny (model X.prog X.w) X.A (f v u) Q X.xe s2):
  wpAny (model X.prog X.w) X.A (eval a X.env) (fun v s₁=>wpAny (model X.prog X.w) X.A (eval b X.env) (fun u s₂=>wpAny (model X.prog X.w) X.A (f v u) Q X.xe s₂) X.xe s₁) X.xe s:=by
 refine zt (ha pins s σ H _ I h) fun v s1 ⟨x,H1,I1,r1,q1⟩=>?_
 refine zt (hb pins s1 σ H1 _ I1 q1) fun u s2 ⟨y,H2,I2,r2,q2⟩=>?_
 exact hf v u s2 x y H2 I2 r1 r2 q2
theorem zzc {op:Operator} {r:R2} (ho:OpR X (binaryOp op) r) (ha:PE X a ta) (hb:PE X b tb):PE X (.BinOp a op b pos) (tOp r ta tb):=by
 intro pins s σ H Q I h
 exact wpAny_BinOp (binT ha hb I h fun v u s2 x y H2 I2 rx ry q=>ho pins s2 σ H2 x y v u Q I2 rx ry q)
theorem zzk {op:UnaryOp} {r:V→Hp→VK→Prop} (ho:UnR X (unaryOp op) r) (ha:PE X a ta):PE X (.UnaryOp op a pos) (tUn r ta):=by
 intro pins s σ H Q I h
 exact UnaryOp_ (zt (ha pins s σ H _ I h) fun v s1 ⟨x,H1,I1,r1,q1⟩=>ho pins s1 σ H1 x v Q I1 r1 q1)
theorem opI {f:Value→Value→Sem Value} {C:Int→Int→Prop} {g:Int→Int→Int}
  (rule: ∀(i j:Int) (t u:Tok) (s:Shared) (Q:Value→Shared→Prop) (E:Value→Shared→Prop),C i j→Q (.int (g i j) s.toks) {s with toks:=s.toks+1}→wpAny (model X.prog X.w) X.A (f (.int i t) (.int j u)) Q E s):
  OpR X f (rI C fun i j=> .int (g i j)):=by
 intro pins s σ H x y v u Q I rx ry h
 obtain ⟨i,j,rfl,rfl,hc,q⟩:=h
 obtain ⟨t,rfl⟩:=rx
 obtain ⟨t',rfl⟩:=ry
 exact rule i j t t' s _ _ hc ⟨.int (g i j),H,I.tok _,⟨_,rfl⟩,q⟩
theorem opI0 {f:Value→Value→Sem Value} {g:Int→Int→Int}
  (rule: ∀(i j:Int) (t u:Tok) (s:Shared) (Q:Value→Shared→Prop) (E:Value→Shared→Prop),Q (.int (g i j) s.toks) {s with toks:=s.toks+1}→wpAny (model X.prog X.w) X.A (f (.int i t) (.int j u)) Q E s):
  OpR X f (qh fun i j=> .int (g i j)):=by
 intro pins s σ H x y v u Q I rx ry h
 obtain ⟨i,j,rfl,rfl,q⟩:=h
 obtain ⟨t,rfl⟩:=rx
 obtain ⟨t',rfl⟩:=ry
 exact rule i j t t' s _ _ ⟨.int (g i j),H,I.tok _,⟨_,rfl⟩,q⟩
theorem opB0 {f:Value→Value→Sem Value} {g:Int→Int→Bool}
  (rule: ∀(i j:Int) (t u:Tok) (s:Shared) (Q:Value→Shared→Prop) (E:Value→Shared→Prop),Q (.bool (g i j)) s→wpAny (model X.prog X.w) X.A (f (.int i t) (.int j u)) Q E s):
  OpR X f (qh fun i j=> .bl (g i j)):=by
 intro pins s σ H x y v u Q I rx ry h
 obtain ⟨i,j,rfl,rfl,q⟩:=h
 obtain ⟨t,rfl⟩:=rx
 obtain ⟨t',rfl⟩:=ry
 exact rule i j t t' s _ _ ⟨.bl (g i j),H,I,rfl,q⟩
def CDiv (i j:Int):Prop:=0 < j∧j < 1073741824
def CPow (i j:Int):Prop:=0≤j∧j≤1000000∧i.natAbs < 2 ^ 64
def CMul (i j:Int):Prop:=(-(2 ^ 64) < i∧i < 2 ^ 64)∨(-(2 ^ 64) < j∧j < 2 ^ 64)
theorem CMul.ok {i j:Int} (h:CMul i j):IntMulOk i j:=by
 rcases h with ⟨h1,h2⟩ | ⟨h1,h2⟩
 ·exact .of_left (intBits_le_64 h1 h2)
 ·exact .of_right (intBits_le_64 h1 h2)
theorem op_add:OpR X (binaryOp .Add) (qh fun i j=> .int (i+j)):=opI0 fun _ _ _ _ _ _ _ q=>add_int q
theorem ze1:OpR X (binaryOp .Sub) (qh fun i j=> .int (i - j)):=opI0 fun _ _ _ _ _ _ _ q=>sub_int q
theorem op_mul:OpR X (binaryOp .Mult) (rI CMul fun i j=> .int (i*j)):=opI fun _ _ _ _ _ _ _ hc q=>mul_int q hc.ok
theorem zc6:OpR X (binaryOp .FloorDiv) (rI CDiv fun i j=> .int (i / j)):=opI fun i j _ _ _ _ _ hc q=>by
 have h1:(0:Int) < j:=hc.1
 have h2:j < 1073741824:=hc.2
 exact floordiv_int (by omega) (by rw [Int.fdiv_eq_ediv_of_nonneg i (by omega)];exact q) (.inl (PyProof.noPylong_small (by omega)))
theorem yN:OpR X (binaryOp .Mod) (rI (fun _ j=>0 < j) fun i j=> .int (i % j)):=opI fun i j _ _ _ _ _ hc q=>by
 have h1:(0:Int) < j:=hc
 exact mod_int' (by omega) (by rw [Int.fmod_eq_emod_of_nonneg i (by omega)];exact q)
theorem zyn:OpR X (binaryOp .Pow) (rI CPow fun i j=> .int (i ^ j.toNat)):=opI fun _ _ _ _ _ _ _ hc q=>pow_int_small hc.1 hc.2.1 hc.2.2 q
theorem unI {f:Value→Sem Value} {g:Int→Int}
  (rule: ∀(i:Int) (t:Tok) (s:Shared) (Q:Value→Shared→Prop) (E:Value→Shared→Prop),Q (.int (g i) s.toks) {s with toks:=s.toks+1}→wpAny (model X.prog X.w) X.A (f (.int i t)) Q E s):
  UnR X f (rU fun i=> .int (g i)):=by
 intro pins s σ H x v Q I rx h
 obtain ⟨i,rfl,q⟩:=h
 obtain ⟨t,rfl⟩:=rx
 exact rule i t s _ _ ⟨.int (g i),H,I.tok _,⟨_,rfl⟩,q⟩
theorem zyi:UnR X (unaryOp .USub) (rU fun i=> .int (-i)):=unI fun _ _ _ _ _ q=>neg_int q
end
section
variable {X:Cx} {a b c:Expr} {ta tb tc:TE} {pos:Pos}
theorem zsq {pins:List (Addr×Obj)} {σ:St} {H:Hp} {s:Shared} {Q:VK} {k k':Bool} (I:Inv X pins σ H s) (q:Q (.bl k) H) (e:k=k'):EP X pins σ Q (.bool k') s:=by
 subst e
 exact ⟨.bl k,H,I,rfl,q⟩
theorem zq2:OpR X (compareOp .Lt) (qh fun i j=> .bl (decide (i < j))):=opB0 fun _ _ _ _ _ _ _ q=>lt_int q
theorem zg4:OpR X (compareOp .LtE) (qh fun i j=> .bl (decide (i≤j))):=opB0 fun _ _ _ _ _ _ _ q=>le_int q
theorem zqs:OpR X (compareOp .Gt) (qh fun i j=> .bl (decide (j < i))):=opB0 fun _ _ _ _ _ _ _ q=>gt_int q
theorem zyv:OpR X (compareOp .GtE) (qh fun i j=> .bl (decide (j≤i))):=opB0 fun _ _ _ _ _ _ _ q=>ge_int q
theorem zv6:OpR X (compareOp .Is) (fun x y H Q=>y= .non∧Q (.bl (decide (x= .non))) H):=by
 intro pins s σ H x y v u Q I rx ry h
 obtain ⟨rfl,q⟩:=h
 cases ry
 refine is_none_gen (zsq I q ?_)
 cases x <;> first
  | (cases rx;rfl)
  | (obtain ⟨t,rfl⟩:=rx;rfl)
theorem zum:OpR X (compareOp .IsNot) (fun x y H Q=>y= .non∧Q (.bl (!decide (x= .non))) H):=by
 intro pins s σ H x y v u Q I rx ry h
 obtain ⟨rfl,q⟩:=h
 cases ry
 refine isnot_none_gen (zsq I q ?_)
 cases x <;> first
  | (cases rx;rfl)
  | (obtain ⟨t,rfl⟩:=rx;rfl)
theorem OpR.or {f:Value→Value→Sem Value} {r r':R2} (h:OpR X f r) (h':OpR X f r'):OpR X f (fun x y H Q=>r x y H Q∨r' x y H Q):=by
 intro pins s σ H x y v u Q I rx ry q
 rcases q with q | q
 ·exact h pins s σ H x y v u Q I rx ry q
 ·exact h' pins s σ H x y v u Q I rx ry q
theorem yE (b:Expr) {op:CmpOp} (h:op≠ .In:=by decide) (h2:op≠ .NotIn:=by decide):behindInMarks op b=false:=by
 have e1:(op==CmpOp.In)=false:=by cases op <;> first | rfl | exact absurd rfl h
 have e2:(op==CmpOp.NotIn)=false:=by cases op <;> first | rfl | exact absurd rfl h2
 cases b <;> simp [behindInMarks,e1,e2]
theorem zuq {op:CmpOp} {r:R2} (ho:OpR X (compareOp op) r) (ha:PE X a ta) (hb:PE X b tb) (hm:behindInMarks op b=false):PE X (.Compare a [op] [b] pos) (tOp r ta tb):=by
 intro pins s σ H Q I h
 exact wpAny_Compare1 (binT ha hb I h fun v u s2 x y H2 I2 rx ry q=>ho pins s2 σ H2 x y v u Q I2 rx ry q) hm
def zx5 (t:TE):TT:=fun σ H Q=>t σ H fun x H'=> ∃k,x= .bl k∧Q k H'
theorem zvc {op:CmpOp} {r:R2} (ho:OpR X (compareOp op) r) (ha:PE X a ta) (hb:PE X b tb) (hm:behindInMarks op b=false):PT X (.Compare a [op] [b] pos) (zx5 (tOp r ta tb)):=by
 intro pins s σ H Q I h
 refine wpAny_isTrue_Compare1 (zt (ha pins s σ H _ I h) fun v s1 ⟨x,H1,I1,r1,q1⟩=>zt (hb pins s1 σ H1 _ I1 q1) fun u s2 ⟨y,H2,I2,r2,q2⟩=>
  zt (ho pins s2 σ H2 x y v u _ I2 r1 r2 q2) fun c s3 ⟨z,H3,I3,r3,k,e,q3⟩=>?_) hm
 subst e
 cases r3
 exact wpAny_truthy_bool ⟨H3,I3,q3⟩
def zpg (r r':R2) (ta tb tc:TE):TE:=fun σ H Q=>ta σ H fun x H1=>tb σ H1 fun y H2=>r x y H2 fun z H3=> ∃k,z= .bl k∧
 (if k=true then tc σ H3 fun w' H4=>r' y w' H4 Q else Q (.bl false) H3)
theorem zqq {op op':CmpOp} {r r':R2} (ho:OpR X (compareOp op) r) (ho':OpR X (compareOp op') r') (ha:PE X a ta) (hb:PE X b tb) (hc:PE X c tc)
  (hm:lastMarks [op,op'] [b,c]=false:=by with_unfolding_all rfl):PE X (.Compare a [op,op'] [b,c] pos) (zpg r r' ta tb tc):=by
 intro pins s σ H Q I h
 refine Compare_chain (zt (ha pins s σ H _ I h) fun v s1 ⟨x,H1,I1,r1,q1⟩=>chain_link (zt (hb pins s1 σ H1 _ I1 q1) fun u s2 ⟨y,H2,I2,r2,q2⟩=>
  zt (ho pins s2 σ H2 x y v u _ I2 r1 r2 q2) fun d s3 ⟨z,H3,I3,r3,k,e,q3⟩=>?_)) hm
 subst e
 cases r3
 refine wpAny_truthy_bool ?_
 cases k with
 | false=>exact ite_ff ⟨.bl false,H3,I3,rfl,q3⟩
 | true=>exact ite_tt (chain_last (zt (hc pins s3 σ H3 _ I3 q3) fun w' s4 ⟨z',H4,I4,r4,q4⟩=>ho' pins s4 σ H4 y z' u w' Q I4 r2 r4 q4))
theorem zrk {op op':CmpOp} {r r':R2} (ho:OpR X (compareOp op) r) (ho':OpR X (compareOp op') r') (ha:PE X a ta) (hb:PE X b tb) (hc:PE X c tc)
  (hm:lastMarks [op,op'] [b,c]=false:=by with_unfolding_all rfl):PT X (.Compare a [op,op'] [b,c] pos) (zx5 (zpg r r' ta tb tc)):=by
 intro pins s σ H Q I h
 refine isTrue_chain (zt (ha pins s σ H _ I h) fun v s1 ⟨x,H1,I1,r1,q1⟩=>test_link (zt (hb pins s1 σ H1 _ I1 q1) fun u s2 ⟨y,H2,I2,r2,q2⟩=>
  zt (ho pins s2 σ H2 x y v u _ I2 r1 r2 q2) fun d s3 ⟨z,H3,I3,r3,k,e,q3⟩=>?_)) hm
 subst e
 cases r3
 refine wpAny_truthy_bool ?_
 cases k with
 | false=>
  obtain ⟨k',e',q'⟩:=q3
  cases e'
  exact ite_ff ⟨H3,I3,q'⟩
 | true=>
  refine ite_tt (test_last (zt (hc pins s3 σ H3 _ I3 q3) fun w' s4 ⟨z',H4,I4,r4,q4⟩=>zt (ho' pins s4 σ H4 y z' u w' _ I4 r2 r4 q4) fun d' s5 ⟨z2,H5,I5,r5,k2,e2,q5⟩=>?_))
  subst e2
  cases r5
  exact wpAny_truthy_bool ⟨H5,I5,q5⟩
def TruV (K:PySem.W.Frag) (x:V) (H:Hp) (k:Bool):Prop:=
 match x with
 | .non=>k=false
 | .bl b=>k=b
 | .int i=>k=(i !=0)
 | .str y=>y.length≤sizeLine∧k=((y.length:Int) !=0)
 | .byt y=>y.size≤sizeLine∧k=((y.size:Int) !=0)
 | .ref p=>(∃xs,SqL K H p xs∧k= !xs.isEmpty)∨(∃xs,SqT K H p xs∧k= !xs.isEmpty)∨∃kvs,H p=some (.dK kvs)∧k= !kvs.isEmpty
 | _=>False
theorem zm0 {κ:Type} {kvs:List (κ×V)} {vs:List (κ×Value)} (r:KV kvs vs):(!vs.isEmpty)= !kvs.isEmpty:=by
 cases r <;> rfl
theorem zhe {xs:List V} {its:List Value} (r:Vals xs its):(!its.toArray.isEmpty)= !xs.isEmpty:=by
 cases r <;> simp
theorem zhi:(sizeLine:Nat) < 2 ^ 63:=by rw [sizeLine_eq];decide
theorem zxe:TruR X (fun x H Q=> ∃k,TruV X.K x H k∧Q k H):=by
 intro pins s σ H x v Q I rx h
 obtain ⟨k,e,q⟩:=h
 have hl:=zhi
 have hs:sizeLine=16777216:=sizeLine_eq
 cases x with
 | non=>
  cases rx
  have e':k=false:=e
  subst e'
  exact truthy_none ⟨H,I,q⟩
 | bl b=>
  cases rx
  have e':k=b:=e
  subst e'
  exact wpAny_truthy_bool ⟨H,I,q⟩
 | int i=>
  obtain ⟨t,rfl⟩:=rx
  have e':k=(i !=0):=e
  subst e'
  exact PySem.P.truthy_int ⟨H,I,q⟩
 | str y=>
  obtain ⟨t,rfl⟩:=rx
  obtain ⟨hy,e'⟩:y.length≤sizeLine∧k=((y.length:Int) !=0):=e
  subst e'
  exact PySem.P.truthy_str (by omega) ⟨H,I.tok _,q⟩
 | byt y=>
  obtain ⟨t,rfl⟩:=rx
  obtain ⟨hy,e'⟩:y.size≤sizeLine∧k=((y.size:Int) !=0):=e
  subst e'
  exact PySem.W.truthy_bytes (by omega) ⟨H,I.tok _,q⟩
 | ref p=>
  cases rx
  have e':(∃xs,SqL X.K H p xs∧k= !xs.isEmpty)∨(∃xs,SqT X.K H p xs∧k= !xs.isEmpty)∨∃kvs,H p=some (.dK kvs)∧k= !kvs.isEmpty:=e
  rcases e' with ⟨xs,hx,e'⟩ | ⟨xs,hx,e'⟩ | ⟨kvs,hx,e'⟩
  ·subst e'
   obtain ⟨its,r,pl,hz⟩:=I.list hx
   have hlen:=r.length
   exact wpAny_truthy_list pl.isList (by simp only [List.size_toArray];omega) ⟨H,I.tok _,by rw [zhe r];exact q⟩
  ·subst e'
   obtain ⟨its,r,pl,hz⟩:=I.tuple hx
   have hlen:=r.length
   exact truthy_tuple pl (by simp only [List.size_toArray];omega) ⟨H,I.tok _,by rw [zhe r];exact q⟩
  ·subst e'
   obtain ⟨hz,hS,vs,r,m⟩:kvs.length≤sizeLine∧(p==sysModules)=false∧∃vs,KV kvs vs∧s.heap.DictOf (yy X.prog X.w) p vs:=I.hok p _ hx
   have hlen:kvs.length=vs.length:=Paired.length r
   exact wpAny_truthy_dict hS m (by omega) ⟨H,I.tok _,by rw [zm0 r];exact q⟩
 | _=>exact (show False from e).elim
theorem zqo (ha:PE X a ta) (he: ∀whole,isTrue a X.env whole=(do let v ←whole;standAt a.pos;holding [v] (truthy v))):
  PT X a (fun σ H Q=>ta σ H fun x H'=> ∃k,TruV X.K x H' k∧Q k H'):=by
 intro pins s σ H Q I h
 exact isTrue_plain (zt (ha pins s σ H _ I h) fun v s1 ⟨x,H1,I1,r1,q1⟩=>zxe pins s1 σ H1 x v Q I1 r1 q1) (he _)
theorem op_add_str:OpR X (binaryOp .Add) (fun x y H Q=> ∃i j,x= .str i∧y= .str j∧i.length+j.length≤sizeLine∧Q (.str (i++j)) H):=by
 intro pins s σ H x y v u Q I rx ry h
 obtain ⟨i,j,rfl,rfl,hz,q⟩:=h
 obtain ⟨t,rfl⟩:=rx
 obtain ⟨t',rfl⟩:=ry
 exact add_str (fun t' tk=>⟨.str (i++j),H,I.tok _,⟨_,rfl⟩,q⟩) hz
theorem zhz {x:V} {us:List Value} (r:Vals [x] us): ∃u,us=[u]∧RelV x u:=by
 cases r with
 | cons r1 r2=>cases r2;exact ⟨_,rfl,r1⟩
theorem zty {x y:V} {us:List Value} (r:Vals [x,y] us): ∃u w',us=[u,w']∧RelV x u∧RelV y w':=by
 cases r with
 | cons r1 r2=>
  cases r2 with
  | cons r3 r4=>cases r4;exact ⟨_,_,rfl,r1,r3⟩
theorem zje (hc:X.calm=true):CallR X (.builtin "max") (fun xs H Q=> ∃i j,xs=[.int i,.int j]∧Q (.int (if j > i then j else i)) H):=by
 intro pins s σ H xs us Q I r h
 obtain ⟨i,j,rfl,q⟩:=h
 obtain ⟨u,w',rfl,⟨t,rfl⟩,⟨t',rfl⟩⟩:=zty r
 refine max_two_ints (I.ok.hd hc) fun h' tk k=>⟨_,H,I.kept k,?_,q⟩
 by_cases hj:j > i
 ·rw [if_pos hj,if_pos hj];exact ⟨_,rfl⟩
 ·rw [if_neg hj,if_neg hj];exact ⟨_,rfl⟩
theorem zo3:CallR X (.type "int") (fun xs H Q=>(∃i,xs=[.int i]∧Q (.int i) H)∨∃k,xs=[.bl k]∧Q (.int (if k then 1 else 0)) H):=by
 intro pins s σ H xs us Q I r h
 rcases h with ⟨i,rfl,q⟩ | ⟨k,rfl,q⟩
 ·obtain ⟨u,rfl,t,rfl⟩:=zhz r
  exact call_int_int ⟨.int i,H,I,⟨_,rfl⟩,q⟩
 ·obtain ⟨u,rfl,r1⟩:=zhz r
  cases r1
  exact call_int_bool ⟨.int (if k then 1 else 0),H,I.tok _,⟨_,rfl⟩,q⟩
def LenV (K:PySem.W.Frag) (x:V) (H:Hp) (n:Nat):Prop:=
 match x with
 | .str y=>y.length≤sizeLine∧n=y.length
 | .byt y=>y.size≤sizeLine∧n=y.size
 | .ref p=>(∃xs,SqL K H p xs∧n=xs.length)∨∃xs,SqT K H p xs∧n=xs.length
 | _=>False
theorem zqw:CallR X (.builtin "len") (fun xs H Q=> ∃x n,xs=[x]∧LenV X.K x H n∧Q (.int n) H):=by
 intro pins s σ H xs us Q I r h
 obtain ⟨x,n,rfl,e,q⟩:=h
 obtain ⟨u,rfl,rx⟩:=zhz r
 have hl:=zhi
 have hs:sizeLine=16777216:=sizeLine_eq
 cases x with
 | str y=>
  obtain ⟨t,rfl⟩:=rx
  obtain ⟨hy,e'⟩:y.length≤sizeLine∧n=y.length:=e
  subst e'
  exact len_str (by omega) ⟨.int _,H,I.tok _,⟨_,rfl⟩,q⟩
 | byt y=>
  obtain ⟨t,rfl⟩:=rx
  obtain ⟨hy,e'⟩:y.size≤sizeLine∧n=y.size:=e
  subst e'
  exact PySem.W.len_bytes (by omega) ⟨.int _,H,I.tok _,⟨_,rfl⟩,q⟩
 | ref p=>
  cases rx
  have e':(∃xs,SqL X.K H p xs∧n=xs.length)∨∃xs,SqT X.K H p xs∧n=xs.length:=e
  rcases e' with ⟨xs,hx,e'⟩ | ⟨xs,hx,e'⟩
  ·subst e'
   obtain ⟨its,r',pl,hz⟩:=I.list hx
   have hlen:=r'.length
   exact Calls.call_len_list pl.isList (by simp only [List.size_toArray];omega) ⟨.int xs.length,H,I.tok _,⟨_,by simp only [List.size_toArray];rw [hlen]⟩,q⟩
  ·subst e'
   obtain ⟨its,r',pl,hz⟩:=I.tuple hx
   have hlen:=r'.length
   exact len_tuple pl (by simp only [List.size_toArray];omega) ⟨.int xs.length,H,I.tok _,⟨_,by simp only [List.size_toArray];rw [hlen]⟩,q⟩
 | _=>exact (show False from e).elim
end
structure ObjM (h:Heap) (x dx C:Addr) (mA:Str→Option Value):Prop where
 obj:h.get? x=some (PySem.W.instObj C dx)
 ns:h.Ns1 dx mA
 ne:dx≠x
theorem zp7 {h:Heap} {dx:Addr} {mA:Str→Option Value} (n:h.Ns1 dx mA): ∃od,h.get? dx=some od∧∀name,PySem.W.lookIn name od=some (mA name):=by
 obtain ⟨o,es,ep,ho,hd,hk,_,hm⟩:=n
 refine ⟨o,ho,fun name=>?_⟩
 have e:=hm name
 unfold nsFind findBy at e
 rw [←Array.find?_toList] at e
 unfold PySem.W.lookIn
 rw [hd]
 dsimp only
 split
 ·rename_i y q
  rw [q] at e
  exact congrArg some e
 ·rename_i q
  rw [q] at e
  have a:es.toList.any (·.refKey)=false:=by
   rw [List.any_eq_false]
   intro y hy
   obtain ⟨z,t,hkey⟩:=hk y (Array.mem_toList_iff.mp hy)
   simp [DictEntry.refKey,hkey]
  have a': ¬es.toList.any (·.refKey)=true:=by rw [a];exact Bool.false_ne_true
  rw [if_neg a']
  exact congrArg some e
theorem ObjM.look {h:Heap} {x dx C:Addr} {mA:Str→Option Value} (I:ObjM h x dx C mA): ∃od,PySem.W.InstAt h x (PySem.W.instObj C dx) C (some od)∧∀name,PySem.W.lookIn name od=some (mA name):=
 let ⟨od,ho,hl⟩:=zp7 I.ns
 ⟨od,⟨I.obj,rfl,rfl,ho⟩,hl⟩
section
variable {prog:Program} {w:World} {A:Around} {E:Value→Shared→Prop} {s:Shared} {K:PySem.W.Frag} {x dx C f:Addr} {mA:Str→Option Value} {name:Str} {v:Value}
theorem zuh {expr:Bool} {Q:Value→Shared→Prop} (X:K.In s.heap) (I:ObjM s.heap x dx C mA) (hg:PySem.W.plainGet K C name=true) (hh:PySem.W.hasDictIn K C=true)
  (ha:PySem.W.findIn K (.ref C) name=some none) (hv:mA name=some v) (hv':PySem.W.handedIn v=true) (h:Q v {s with toks:=s.toks+1}):
  wpAny (model prog w) A (getAttr (.ref x) name expr) Q E s:=by
 obtain ⟨od,J,hl⟩:=I.look
 exact PySem.W.get_value X J (PySem.W.plainGet_of hg).1 (PySem.W.findObj_own hh ha rfl (by rw [hl,hv])) hv' h
theorem zrd {pl:Sem Bool} {Q:Value×List Value→Shared→Prop} (X:K.In s.heap) (I:ObjM s.heap x dx C mA) (hg:PySem.W.plainGet K C name=true)
  (hf:PySem.W.findIn K (.ref C) name=some (some (.ref f))) (ht:PySem.W.isFn K (.ref f)=true) (hv:mA name=none) (h:Q (.ref f,[.ref x]) s):
  wpAny (model prog w) A (getMethod (.ref x) name pl) Q E s:=by
 obtain ⟨od,J,hl⟩:=I.look
 exact PySem.W.method_fn X J (PySem.W.plainGet_of hg).1 (PySem.W.plainGet_of hg).2 hf (beq_iff_eq.mp ht) (by show (PySem.W.lookIn name od).map (·.isSome)=some false;rw [hl,hv];rfl) h
theorem zu8 {ns:List Str} {Q:Unit→Shared→Prop} (X:K.In s.heap) (I:ObjM s.heap x dx C mA)
  (hs:PySem.W.findIn K (.ref C) "__setattr__" =some (some (.builtin "object.__setattr__"))) (hp:PySem.W.plainOver K C=true) (ht:PySem.W.takerIn K C name=some none) (hh:PySem.W.hasDictIn K C=true)
  (hw:PySem.Within mA ns) (hsz:ns.length≤sizeLine)
  (h: ∀h',ObjM h' x dx C (fun y=>if y=name then some v else mA y)→Heap.SameBut dx s.heap h'→Q () {s with heap:=h',toks:=s.toks+2}):
  wpAny (model prog w) A (setAttr (.ref x) name v) Q E s:=by
 obtain ⟨od,J,hl⟩:=I.look
 refine PySem.W.set_plain X J hs (PySem.W.osa_open (s:={s with toks:=s.toks+1}) (r:=none) X J hp ht fun b=>?_)
 obtain ⟨cd,hc,hd'⟩:=PySem.W.any_some hh
 have hx:s.heap.get? x=some ⟨.ref C,some dx,.plain,#[]⟩:=I.obj
 refine wpAny_bind (wpAny_pure (wpAny_bind (wpAny_bind (wpAny_loadPart hx (wpAny_bind (PySem.W.Looks.here (s:={s with toks:=s.toks+1}) (PySem.W.looks_clsIn X hc) ?_))))))
 rw [hd']
 refine wpAny_pure (a:=some dx) (wpAny_bind (wpAny_pure (wpAny_bind ?_)))
 refine wpAny_nsSet1 (s:={s with toks:=s.toks+1}) I.ns fun h' hn2 hs2=>?_
 obtain ⟨oD,esD,epD,hoD,hdD,hcD⟩:=hn2.count (PySem.Within.cons name v hw)
 refine wpAny_bind (wpAny_lookBehind hoD (by rw [hdD];exact pastItsLine_dict (Nat.le_trans hcD (by rw [List.length_cons];omega))) ?_)
 exact wpAny_pure (h _ ⟨(hs2.2 _ (Ne.symm I.ne)).trans I.obj,hn2,I.ne⟩ hs2)
theorem zqm {R:Result→Shared→Prop} {vs:List Value} {kw:List (Str×Value)} (X:K.In s.heap) (hm:PySem.W.makesIn K C=true)
  (hi:PySem.W.findIn K (.ref C) "__init__" =some (some (.ref f))) (hf:PySem.W.typeIn K (.ref f)=some (.type "function"))
  (h:codeAny (model prog w) (A.under (.builtin "type.__call__" ⟨.ref C::vs,kw⟩)) (.call (.ref f) ⟨.ref (s.heap.objs.size+1)::vs,kw⟩) (PySem.W.InitBack (s.heap.objs.size+1) R)
   {s with heap:=(s.heap.push PySem.W.emptyDict).push (PySem.W.instObj C s.heap.objs.size)}):
  codeAny (model prog w) A (.call (.ref C) ⟨vs,kw⟩) R s:=by
 obtain ⟨hh,g,d,t,os⟩:=s
 exact PySem.W.make_core (PySem.W.makes_of X hm) (PySem.W.looks_findIn X hi) (fun self=>PySem.W.bind_fn X self hf) (.inl rfl) h
end
noncomputable def putF (f:Str) (v:V):List (Str×V)→List (Str×V)
 | []=>[(f,v)]
 | (g,x)::r=>if g=f then (g,v)::r else (g,x)::putF f v r
theorem zgc (f g:Str) (v:V): ∀fs:List (Str×V),(putF f v fs).lookup g=if g=f then some v else fs.lookup g
 | []=>by
  show List.lookup g [(f,v)]=_
  by_cases h:g=f
  ·have hb:(g==f)=true:=beq_iff_eq.mpr h
   simp only [List.lookup,hb,if_pos h]
  ·have hb:(g==f)=false:=beq_eq_false_iff_ne.mpr h
   simp only [List.lookup,hb,if_neg h]
 | (k,x)::r=>by
  have ih:=zgc f g v r
  rw [show putF f v ((k,x)::r)=(if k=f then (k,v)::r else (k,x)::putF f v r) from rfl]
  by_cases hk:k=f
  ·rw [if_pos hk]
   by_cases h:g=k
   ·have hb:(g==k)=true:=beq_iff_eq.mpr h
    simp only [List.lookup,hb,if_pos (h.trans hk)]
   ·have hb:(g==k)=false:=beq_eq_false_iff_ne.mpr h
    simp only [List.lookup,hb,if_neg (fun e:g=f=>h (e.trans hk.symm))]
  ·rw [if_neg hk]
   by_cases h:g=k
   ·have hb:(g==k)=true:=beq_iff_eq.mpr h
    simp only [List.lookup,hb,if_neg (fun e:g=f=>hk (h.symm.trans e))]
   ·have hb:(g==k)=false:=beq_eq_false_iff_ne.mpr h
    simp only [List.lookup,hb]
    exact ih
theorem zgx (f:Str) (v:V): ∀fs:List (Str×V),f∈(putF f v fs).map (·.1)∧∀g,g∈fs.map (·.1)→g∈(putF f v fs).map (·.1)
 | []=>⟨by simp [putF],fun g h=>by simp at h⟩
 | (k,x)::r=>by
  obtain ⟨i1,i2⟩:=zgx f v r
  rw [show putF f v ((k,x)::r)=(if k=f then (k,v)::r else (k,x)::putF f v r) from rfl]
  by_cases hk:k=f
  ·rw [if_pos hk]
   subst hk
   exact ⟨by simp,fun g h=>by simpa using h⟩
  ·rw [if_neg hk]
   refine ⟨?_,fun g h=>?_⟩
   ·rw [List.map_cons]
    exact List.mem_cons_of_mem _ i1
   ·rw [List.map_cons] at h ⊢
    rcases List.mem_cons.mp h with e | e
    ·exact List.mem_cons.mpr (.inl e)
    ·exact List.mem_cons_of_mem _ (i2 g e)
theorem zgg (f:Str) (v:V): ∀fs:List (Str×V),(putF f v fs).length≤fs.length+1
 | []=>by simp [putF]
 | (k,x)::r=>by
  have ih:=zgg f v r
  rw [show putF f v ((k,x)::r)=(if k=f then (k,v)::r else (k,x)::putF f v r) from rfl]
  by_cases hk:k=f
  ·rw [if_pos hk,List.length_cons,List.length_cons];omega
  ·rw [if_neg hk,List.length_cons,List.length_cons];omega
theorem RelO.some_of {v:V} {o:Option Value} (r:RelO (some v) o): ∃u,o=some u∧RelV v u:=by
 cases o with
 | none=>exact (show False from r).elim
 | some u=>exact ⟨u,rfl,r⟩
theorem RelO.none_of {o:Option Value} (r:RelO none o):o=none:=by
 cases o with
 | none=>rfl
 | some u=>exact (show False from r).elim
theorem zoc {v:V} {u:Value} (r:RelV v u):PySem.W.handedIn u=true:=by
 cases v with
 | non=>cases (show u=Value.none from r);rfl
 | bl b=>cases (show u=Value.bool b from r);rfl
 | int i=>obtain ⟨t,e⟩:=(show ∃t,u=Value.int i t from r);cases e;rfl
 | str x=>obtain ⟨t,e⟩:=(show ∃t,u=Value.str x t from r);cases e;rfl
 | byt b=>obtain ⟨t,e⟩:=(show ∃t,u=Value.bytes b t from r);cases e;rfl
 | flt b=>obtain ⟨t,e⟩:=(show ∃t,u=Value.float b t from r);cases e;rfl
 | ref a=>cases (show u=Value.ref a from r);rfl
 | ty n=>cases (show u=Value.type n from r);rfl
section
variable {P:Program} {w:World} {H H':Hp} {h h':Heap} {a C dx:Addr} {fs fs':List (Str×V)}
theorem zia (hok:HOk P w H h) (e:H a=some (.ins C dx fs)): ∃mA,ObjM h a dx C mA∧(∀f,RelO (fs.lookup f) (mA f))∧PySem.Within mA (fs.map (·.1))∧fs.length≤1000∧H dx=some (.own a):=by
 obtain ⟨d,z,ne,ob,mA,n,r,q⟩:=(show ObjOk P w H h a (.ins C dx fs) from hok a _ e)
 exact ⟨mA,⟨ob,n,ne⟩,r,q,z,d⟩
end
structure Cls (K:PySem.W.Frag) (C:Addr):Prop where
 pg:PySem.W.plainGet K C Str.empty=true
 hd:PySem.W.hasDictIn K C=true
 po:PySem.W.plainOver K C=true
 sa:PySem.W.findIn K (.ref C) "__setattr__" =some (some (.builtin "object.__setattr__"))
theorem Cls.get {K:PySem.W.Frag} {C:Addr} (c:Cls K C) (f:Str):PySem.W.plainGet K C f=true:=c.pg
def NoAttr (K:PySem.W.Frag) (C:Addr) (f:Str):Prop:=PySem.W.findIn K (.ref C) f=some none
theorem NoAttr.taker {K:PySem.W.Frag} {C:Addr} {f:Str} (n:NoAttr K C f):PySem.W.takerIn K C f=some none:=by
 unfold PySem.W.takerIn
 rw [show PySem.W.findIn K (.ref C) f=some none from n]
 rfl
structure Meth (K:PySem.W.Frag) (C:Addr) (m:Str) (f:Addr):Prop where
 at_:PySem.W.findIn K (.ref C) m=some (some (.ref f))
 fn:PySem.W.isFn K (.ref f)=true
 kp:PySem.W.keepIn K (.ref f)=true
section
variable {X:Cx} {pins:List (Addr×Obj)} {σ:St} {H:Hp} {s:Shared} {a C dx:Addr} {fs:List (Str×V)} {f:Str} {v:V} {A:Around} {E:Value→Shared→Prop}
theorem znm {b:Bool} {Q:Value→Shared→Prop} (I:Inv X pins σ H s) (e:H a=some (.ins C dx fs)) (c:Cls X.K C) (n:NoAttr X.K C f) (l:fs.lookup f=some v)
  (h: ∀u s',Inv X pins σ H s'→RelV v u→Q u s'):wpAny (model X.prog X.w) A (getAttr (.ref a) f b) Q E s:=by
 obtain ⟨mA,O,r,_,_,_⟩:=zia I.hok e
 obtain ⟨u,hu,ru⟩:=RelO.some_of (v:=v) (o:=mA f) (by rw [←l];exact r f)
 exact zuh I.kIn O (c.get f) c.hd n hu (zoc ru) (h u _ (I.tok _) ru)
theorem zmz {m:Str} {g:Addr} {pl:Sem Bool} {Q:Value×List Value→Shared→Prop} (I:Inv X pins σ H s) (e:H a=some (.ins C dx fs)) (c:Cls X.K C) (k:Meth X.K C m g) (l:fs.lookup m=none)
  (h:Q (.ref g,[.ref a]) s):wpAny (model X.prog X.w) A (getMethod (.ref a) m pl) Q E s:=by
 obtain ⟨mA,O,r,_,_,_⟩:=zia I.hok e
 have hn:mA m=none:=RelO.none_of (by rw [←l];exact r m)
 exact zrd I.kIn O (c.get m) k.at_ k.fn hn h
theorem zmu {y:V} {u:Value} {Q:Unit→Shared→Prop} (I:Inv X pins σ H s) (e:H a=some (.ins C dx fs)) (c:Cls X.K C) (n:NoAttr X.K C f) (hl:fs.length < 1000) (ry:RelV y u)
  (h: ∀s',Inv X pins σ (zj H a (.ins C dx (putF f y fs))) s'→Q () s'):wpAny (model X.prog X.w) A (setAttr (.ref a) f u) Q E s:=by
 obtain ⟨mA,O,r,wi,_,ho⟩:=zia I.hok e
 have hz:(fs.map (·.1)).length≤sizeLine:=by rw [List.length_map,sizeLine_eq];omega
 refine zu8 I.kIn O c.sa c.po n.taker c.hd wi hz fun h' O' sb=>h _ ?_
 have hd: ∃o,h'.get? dx=some o:=let ⟨o,_,_,e',_⟩:=O'.ns;⟨o,e'⟩
 refine I.write (x:=a) (e:=dx) (by rw [e];exact True.intro) (.inr ho) (fun b q hb z=>(sb.2 b hb).trans z) hd ?_
 refine ⟨by rw [zR O.ne];exact ho,?_,O.ne,O'.obj,_,O'.ns,fun g=>?_,fun g hg=>?_⟩
 ·have:=zgg f y fs;omega
 ·show RelO ((putF f y fs).lookup g) (if g=f then some u else mA g)
  rw [zgc]
  by_cases q:g=f
  ·rw [if_pos q,if_pos q];exact ry
  ·rw [if_neg q,if_neg q];exact r g
 ·by_cases q:g=f
  ·rw [q];exact (zgx f y fs).1
  ·refine (zgx f y fs).2 g (wi g fun z=>hg ?_)
   show (if g=f then some u else mA g)=none
   rw [if_neg q];exact z
theorem Inv.made (I:Inv X pins σ H s):Inv X pins σ (zj (zj H s.heap.objs.size (.own (s.heap.objs.size+1))) (s.heap.objs.size+1) (.ins C s.heap.objs.size []))
  {s with heap:=(s.heap.push PySem.W.emptyDict).push (PySem.W.instObj C s.heap.objs.size)}:=by
 have e1:(s.heap.push PySem.W.emptyDict).get? s.heap.objs.size=some PySem.W.emptyDict:=Heap.get?_push_size s.heap rfl
 have e2:((s.heap.push PySem.W.emptyDict).push (PySem.W.instObj C s.heap.objs.size)).get? (s.heap.objs.size+1)=some (PySem.W.instObj C s.heap.objs.size):=by
  have:=Heap.get?_push_size (s.heap.push PySem.W.emptyDict) (o:=PySem.W.instObj C s.heap.objs.size) rfl
  rwa [Heap.size_push] at this
 have e3:(s.heap.push PySem.W.emptyDict).Ns s.heap.objs.size (fun _=>none):=⟨PySem.W.emptyDict,#[],_,e1,rfl,(fun e he=>absurd he (by simp)),fun _=>rfl⟩
 have I1:=I.laid (a:=s.heap.objs.size) (o:= .own (s.heap.objs.size+1)) (h':=s.heap.push PySem.W.emptyDict) (t':=s.toks) (fun b u q=>Heap.get?_push_of_some _ q) (Nat.le_refl _) ⟨_,e1⟩
 refine I1.laid (a:=s.heap.objs.size+1) (o:= .ins C s.heap.objs.size []) (t':=s.toks) (fun b u q=>Heap.get?_push_of_some _ q) (Nat.le_of_eq (Heap.size_push _ _)) ?_
 have ne:s.heap.objs.size≠s.heap.objs.size+1:=Nat.ne_of_lt (Nat.lt_succ_self _)
 refine ⟨by rw [zR ne,yD],Nat.zero_le _,ne,e2,fun _=>none,(Heap.Ns1.of_empty e3).at fun o q=>Heap.get?_push_of_some _ q,fun _=>True.intro,fun y hy=>absurd rfl hy⟩
theorem ztk {prog:Program} {w:World} {env:Env} {e:Expr} {f:Str} {pos:Pos} {s:Shared} {Q:Value→Shared→Prop} (hb:attributeBase e f env (eval e env)=eval e env)
  (h:wpAny (model prog w) A (eval e env) (fun o s₁=>wpAny (model prog w) A (getAttr o f true) Q E s₁) E s):wpAny (model prog w) A (eval (.Attribute e f pos) env) Q E s:=
 Attribute_any_ h (by rw [arm_eval_Attribute,hb])
end
def tFld (K:PySem.W.Frag) (ta:TE) (f:Str):TE:=fun σ H Q=>ta σ H fun x H1=> ∃a C dx fs v,x= .ref a∧H1 a=some (.ins C dx fs)∧Cls K C∧NoAttr K C f∧fs.lookup f=some v∧Q v H1
def sFld (K:PySem.W.Frag) (ta tv:TE) (f:Str):TS:=fun D σ H=>tv σ H fun y H1=>ta σ H1 fun x H2=> ∃a C dx fs,x= .ref a∧H2 a=some (.ins C dx fs)∧Cls K C∧NoAttr K C f∧fs.length < 1000∧
 D.nx σ (zj H2 a (.ins C dx (putF f y fs)))
section
variable {X:Cx} {o e value:Expr} {f:Str} {pos pos' tpos:Pos} {ta tv:TE}
theorem zx6 (he:PE X e ta) (hb:attributeBase e f X.env (eval e X.env)=eval e X.env):PE X (.Attribute e f pos) (tFld X.K ta f):=by
 intro pins s σ H Q I h
 refine ztk hb (zt (he pins s σ H _ I h) fun u s1 ⟨x,H1,I1,rx,a,C,dx,fs,v,ex,ea,c,n,l,q⟩=>?_)
 subst ex
 obtain rfl:u=Value.ref a:=rx
 exact znm I1 ea c n l fun u' s2 I2 ru=>⟨v,H1,I2,ru,q⟩
theorem zx9 (ha:PE X o ta) (hv:PE X value tv) (hs:swapsWith value (some (.Attribute o f pos')) pos.line X.env=pure false):PS X (.Assign [.Attribute o f pos'] value pos) (sFld X.K ta tv f):=by
 intro pins s σ H D I h
 refine plainObj_wpAny_Assign_Attribute (zt (hv pins s σ H _ I h) fun u s1 ⟨y,H1,I1,ry,q⟩=>zt (ha pins s1 σ H1 _ I1 q) fun ov s2 ⟨x,H2,I2,rx,a,C,dx,fs,ex,ea,c,n,l,q2⟩=>?_) hs
 subst ex
 obtain rfl:ov=Value.ref a:=rx
 exact zmu I2 ea c n l ry fun s3 I3=>⟨σ,_,I3,q2⟩
end
section
variable {X:Cx} {pins:List (Addr×Obj)} {σ:St} {H:Hp} {s:Shared} {A:Around} {E:Value→Shared→Prop} {Q:Value→Shared→Prop} {c:Value} {b:Bool}
inductive TyOf (K:PySem.W.Frag) (H:Hp):V→Value→Prop where
 | non:TyOf K H .non (.type "NoneType")
 | bl (x:Bool):TyOf K H (.bl x) (.type "bool")
 | int (i:Int):TyOf K H (.int i) (.type "int")
 | str (x:Str):TyOf K H (.str x) (.type "str")
 | flt (x:UInt64):TyOf K H (.flt x) (.type "float")
 | lst {a:Addr} {xs:List V} (e:H a=some (.lst xs)):TyOf K H (.ref a) (.type "list")
 | frz {a:Addr} {o:Obj} {xs:List V} (e:H a=some (.frz o (.lst xs))):TyOf K H (.ref a) (.type "list")
 | tup {a:Addr} {xs:List V} (e:H a=some (.tup xs)):TyOf K H (.ref a) (.type "tuple")
 | dK {a:Addr} {kvs:List (zq×V)} (e:H a=some (.dK kvs)):TyOf K H (.ref a) (.type "dict")
 | dT {a:Addr} {kvs:List (MK×V)} (e:H a=some (.dT kvs)):TyOf K H (.ref a) (.type "dict")
 | ins {a C dx:Addr} {fs:List (Str×V)} (e:H a=some (.ins C dx fs)) (cl:Cls K C) (ha:PySem.W.findIn K (.ref C) "__class__" =some (some (.builtin "object.__class__")))
  (hn:PySem.W.specialIn K (.builtin "object.__class__") "__get__" =some (some (.builtin "getset_descriptor.__get__"))) (htk:PySem.W.takesIn K (.builtin "object.__class__")=some true)
  (hm:PySem.W.mroIn K C (.type "object")=some true):TyOf K H (.ref a) (.ref C)
theorem znt {x:V} {u t:Value} (I:Inv X pins σ H s) (rx:RelV x u) (ty:TyOf X.K H x t) (e:PySem.W.kitOne X.K t c=some b) (h: ∀tk,Q (.bool b) {s with toks:=tk}):
  wpAny (model X.prog X.w) A (call (.builtin "isinstance") [u,c]) Q E s:=by
 cases ty with
 | non=>cases (show u=Value.none from rx);exact PySem.W.kia_one PySem.W.kitx_none I.kIn True.intro e (fun z=>nomatch z) h
 | bl y=>cases (show u=Value.bool y from rx);exact PySem.W.kia_one PySem.W.kitx_bool I.kIn True.intro e (fun z=>nomatch z) h
 | int i=>obtain ⟨t,q⟩:=(show ∃t,u=Value.int i t from rx);cases q;exact PySem.W.kia_one PySem.W.kitx_int I.kIn True.intro e (fun z=>nomatch z) h
 | str y=>obtain ⟨t,q⟩:=(show ∃t,u=Value.str y t from rx);cases q;exact PySem.W.kia_one PySem.W.kitx_str I.kIn True.intro e (fun z=>nomatch z) h
 | flt y=>obtain ⟨t,q⟩:=(show ∃t,u=Value.float y t from rx);cases q;exact PySem.W.kia_one PySem.W.kitx_float I.kIn True.intro e (fun z=>nomatch z) h
 | @lst a xs ea=>
  cases (show u=Value.ref a from rx)
  obtain ⟨_,_,n,_,h1⟩:=(show ObjOk X.prog X.w H s.heap a (.lst xs) from I.hok a _ ea)
  exact PySem.W.kia_one PySem.W.kitx_list I.kIn ⟨_,h1,rfl⟩ e (fun z=>nomatch z) h
 | @frz a ob xs ea=>
  cases (show u=Value.ref a from rx)
  obtain ⟨_,_,_,n,_,h1⟩:=(show ObjOk X.prog X.w H s.heap a (.frz ob (.lst xs)) from I.hok a _ ea)
  exact PySem.W.kia_one PySem.W.kitx_list I.kIn ⟨_,h1,rfl⟩ e (fun z=>nomatch z) h
 | @tup a xs ea=>
  cases (show u=Value.ref a from rx)
  obtain ⟨_,_,_,p⟩:=(show ObjOk X.prog X.w H s.heap a (.tup xs) from I.hok a _ ea)
  obtain ⟨o,h1,h2,_⟩:=p
  exact PySem.W.kia_one PySem.W.kitx_tuple I.kIn ⟨o,h1,h2⟩ e (fun z=>nomatch z) h
 | @dK a kvs ea=>
  cases (show u=Value.ref a from rx)
  obtain ⟨_,_,vs,_,p⟩:=(show ObjOk X.prog X.w H s.heap a (.dK kvs) from I.hok a _ ea)
  obtain ⟨o,es,ep,h1,h2,_⟩:=p
  exact PySem.W.kia_one PySem.W.kitx_dict I.kIn ⟨o,h1,h2.1⟩ e (fun z=>nomatch z) h
 | @dT a kvs ea=>
  cases (show u=Value.ref a from rx)
  obtain ⟨_,_,xs,_,o,es,ep,h1,h2,_⟩:=(show ObjOk X.prog X.w H s.heap a (.dT kvs) from I.hok a _ ea)
  exact PySem.W.kia_one PySem.W.kitx_dict I.kIn ⟨o,h1,h2.1⟩ e (fun z=>nomatch z) h
 | @ins a C dx fs ea cl ha hn htk hm=>
  cases (show u=Value.ref a from rx)
  obtain ⟨mA,O,_⟩:=zia I.hok ea
  obtain ⟨od,J,_⟩:=O.look
  exact PySem.W.kia_one (PySem.W.kitx_own (cl.get _) cl.hd ha hn htk hm) I.kIn J e (fun z=>nomatch z) h
end
structure Room (k:Nat) (A:Around):Prop where
 hd:A.handled=none
 dp:A.depth+3*k+5 < recursionLimit
 un:A.units+16*k+200 < cLine
theorem Room.mono {j k:Nat} {A:Around} (r:Room k A) (h:j≤k):Room j A:=⟨r.hd,by have:=r.dp;omega,by have:=r.un;omega⟩
theorem Room.deeper {k:Nat} {A:Around} (r:Room (k+1) A) (env:Env):Room k (A.deeper env):=
 ⟨r.hd,by have:=r.dp;show A.depth+1+3*k+5 < _;omega,by have:=r.un;show A.units+3+16*k+200 < _;omega⟩
theorem zni {A:Around} {C:Addr} {us:List Value} {kw:List (Str×Value)}:(A.under (.builtin "type.__call__" ⟨.ref C::us,kw⟩)).depth=A.depth+1:=by
 first | rfl | simp [Around.under,Code.weight,Code.isCreation,Code.isGuard,Code.isCaller,Code.frames,Code.isFrame,guardIds]
theorem zmx {A:Around} {C:Addr} {us:List Value} {kw:List (Str×Value)}:(A.under (.builtin "type.__call__" ⟨.ref C::us,kw⟩)).units=A.units+1:=by
 first | rfl | simp [Around.under,Code.cUnits,Code.frames,Code.isFrame]
theorem Room.make {k:Nat} {A:Around} (r:Room (k+1) A) (C:Addr) (us:List Value) (kw:List (Str×Value)):Room k (A.under (.builtin "type.__call__" ⟨.ref C::us,kw⟩)):=
 ⟨r.hd,by have:=r.dp;rw [zni];omega,by have:=r.un;rw [zmx];omega⟩
theorem Room.depth {k:Nat} {A:Around} (r:Room k A):A.depth < recursionLimit:=by have:=r.dp;omega
theorem Room.units {k:Nat} {A:Around} (r:Room k A):A.units+64 < cLine:=by have:=r.un;omega
def tNil:TA:=fun _ H Q=>Q [] H
def z0g (ta:TE) (tr:TA):TA:=fun σ H Q=>ta σ H fun x H1=>tr σ H1 fun xs H2=>Q (x::xs) H2
section
variable {X:Cx} {e:Expr} {es:List Expr} {te:TE} {t:TA} {pos:Pos}
theorem zwj:PA X [] tNil:=fun _ _ _ _ H Q I h=>Calls.spliced_nil ⟨[],H,I,.nil,h⟩
theorem zus (ha:PE X e te) (hr:PA X es t) (hs:starEach (e::es) X.env=(false,eval e X.env)::starEach es X.env:=by rfl):PA X (e::es) (z0g te t):=by
 intro pos pins s σ H Q I h
 rw [hs]
 show wpAny _ _ (spliced ((false,eval e X.env)::backTo pos (starEach es X.env))) _ _ s
 refine Calls.spliced_cons (zt (ha pins s σ H _ I h) fun u s1 ⟨x,H1,I1,r1,q1⟩=>?_)
 exact zt (hr pos pins s1 σ H1 _ I1 q1) fun us s2 ⟨xs,H2,I2,r2,q2⟩=>⟨x::xs,H2,I2,.cons r1 r2,q2⟩
def tTup (t:TA):TE:=fun σ H Q=>t σ H fun xs H1=>xs.length≤sizeLine∧∀p,H1 p=none→Q (.ref p) (zj H1 p (.tup xs))
def tLst (t:TA):TE:=fun σ H Q=>t σ H fun xs H1=>xs.length≤sizeLine∧∀p,H1 p=none→Q (.ref p) (zj H1 p (.lst xs))
theorem zwc {x1} (h:PA X es t):PE X (.Tuple es x1 pos) (tTup t):=by
 intro pins s σ H Q I hq
 refine wpAny_Tuple_spliced (zt (h pos pins s σ H _ I hq) fun us s1 ⟨xs,H1,I1,r,z,q⟩=>⟨by rw [←r.length];exact z,?_⟩)
 have hf:H1 s1.heap.objs.size=none:=I1.hok.fresh (Nat.le_refl _)
 refine ⟨.ref s1.heap.objs.size,zj H1 s1.heap.objs.size (.tup xs),I1.laid (t':=s1.toks) (fun b u e=>Heap.get?_push_of_some _ e) (Nat.le_refl _) ?_,rfl,q _ hf⟩
 exact ⟨z,us,r,⟨_,Heap.get?_push_size _ rfl,rfl,_,rfl⟩⟩
theorem zwg (h:PA X es t):PE X (.List es pos) (tLst t):=by
 intro pins s σ H Q I hq
 refine wpAny_List_spliced (zt (h pos pins s σ H _ I hq) fun us s1 ⟨xs,H1,I1,r,z,q⟩=>⟨by rw [←r.length];exact z,?_⟩)
 have hf:H1 s1.heap.objs.size=none:=I1.hok.fresh (Nat.le_refl _)
 refine ⟨.ref s1.heap.objs.size,zj H1 s1.heap.objs.size (.lst xs),I1.laid (t':=s1.toks) (fun b u e=>Heap.get?_push_of_some _ e) (Nat.le_refl _) ?_,rfl,q _ hf⟩
 exact ⟨z,us,0,r,Heap.get?_push_size _ rfl⟩
end
abbrev Sp:=List V→Hp→VK→XK→Prop
abbrev qQ:=List Env→Hp→Shared→XK→Value→Shared→Prop
structure Env0 (P:Program) (w:World) (K:PySem.W.Frag) (mg:Str→Option Value) (base:Heap) (A:Around) (outer:List Env) (s:Shared) (H:Hp):Prop where
 frames:A.frames=some outer
 mod:Mod K mg base
 bs: ∀b o,base.get? b=some o→s.heap.get? b=some o∧H b=none
 bsz:base.objs.size≤s.heap.objs.size
 funs:s.heap.FunFrames base outer
 frf: ∀b∈yz outer,H b=none
 hok:HOk P w H s.heap
 bare:AllBare s.gens
def CE (outer:List Env) (P:Program) (w:World) (H:Hp) (s:Shared) (Q:VK) (u:Value) (s':Shared):Prop:=
 ∃v H',s'.os=s.os∧AllBare s'.gens∧Un (yz outer) [] H H' s.heap s'.heap∧HOk P w H' s'.heap∧RelV v u∧Q v H'
def CR (CX:qQ) (outer:List Env) (P:Program) (w:World) (H:Hp) (s:Shared) (Q:VK) (E:XK) (r:Result) (s':Shared):Prop:=
 match r with
 | .ok (.ret u)=>CE outer P w H s Q u s'
 | .ok _=>False
 | .error e=>CX outer H s E e s'
structure FnOk (P:Program) (w:World) (K:PySem.W.Frag) (mg:Str→Option Value) (base:Heap) (CX:qQ) (k:Nat) (f:Addr) (fd:FuncData) (ps:List Str) (sp:Sp):Prop where
 len: ∀vs H Q E,sp vs H Q E→vs.length=ps.length
 run: ∀(A:Around) (outer:List Env) (s:Shared) (H:Hp) (args:Args) (us:List Value) (vs:List V) (Q:VK) (E:XK),Room k A→Env0 P w K mg base A outer s H→BindsTo s fd args (ps.zip us)→Vals vs us→sp vs H Q E→
  codeAny (model P w) A (.call (.ref f) args) (CR CX outer P w H s Q E) s
theorem FnOk.imp {P:Program} {w:World} {K:PySem.W.Frag} {mg:Str→Option Value} {base:Heap} {CX:qQ} {k:Nat} {f:Addr} {fd:FuncData} {ps:List Str} {sp sp':Sp} (F:FnOk P w K mg base CX k f fd ps sp)
  (h: ∀vs H Q E,sp' vs H Q E→sp vs H Q E):FnOk P w K mg base CX k f fd ps sp':=
 ⟨fun vs H Q E q=>F.len vs H Q E (h _ _ _ _ q),fun A outer s H args us vs Q E hr he hb hv hs=>F.run A outer s H args us vs Q E hr he hb hv (h _ _ _ _ hs)⟩
theorem Env0.make {P:Program} {w:World} {K:PySem.W.Frag} {mg:Str→Option Value} {base:Heap} {A:Around} {outer:List Env} {s:Shared} {H:Hp} (e:Env0 P w K mg base A outer s H) (C:Addr) (us:List Value) (kw:List (Str×Value)):
 Env0 P w K mg base (A.under (.builtin "type.__call__" ⟨.ref C::us,kw⟩)) outer s H:=⟨by first | exact e.frames | (simpa [Around.under,Code.envs,Code.isFrame,pushEnvs] using e.frames),e.mod,e.bs,e.bsz,e.funs,e.frf,e.hok,e.bare⟩
section
variable {X:Cx} {pins:List (Addr×Obj)} {σ:St} {H:Hp} {s s':Shared}
theorem Inv.env0 (I:Inv X pins σ H s):Env0 X.prog X.w X.K X.mg X.base X.A X.stack s H:=
 ⟨I.ok.frames,I.ok.mod,I.bs,Nat.le_trans I.ok.bsz I.sz,I.stack,I.stkFree,I.hok,I.bare⟩
theorem Inv.after {Q:VK} {u:Value} (I:Inv X pins σ H s) (h:CE X.stack X.prog X.w H s Q u s'):EP X pins σ Q u s':=by
 obtain ⟨v,H',os,bare,un,hok,r,q⟩:=h
 obtain ⟨hh,g,d,t,os'⟩:=s'
 obtain rfl:os'=s.os:=os
 exact ⟨v,H',I.call (h':=hh) (g':=g) (d':=d) (t':=t) (ch:=[]) un hok bare (fun b z=>absurd z (by simp)),r,q⟩
end
def zwr (sp:Sp) (dvs:List V) (E:XK) (t:TA):TE:=fun σ H Q=>t σ H fun vs H1=>sp (vs++dvs) H1 Q E
def zwk (C:Addr) (m:Str) (sp:Sp) (dvs:List V) (E:XK) (ta:TE) (t:TA):TE:=fun σ H Q=>ta σ H fun x H1=> ∃a dx fs,x= .ref a∧H1 a=some (.ins C dx fs)∧fs.lookup m=none∧
 t σ H1 fun vs H2=>sp (x::(vs++dvs)) H2 Q E
def zyp (C:Addr) (sp:Sp) (dvs:List V) (E:XK) (t:TA):TE:=fun σ H Q=>t σ H fun vs H1=> ∀x dx,H1 x=none→H1 dx=none→dx≠x→
 sp (.ref x::(vs++dvs)) (zj (zj H1 dx (.own x)) x (.ins C dx [])) (fun v H2=>v= .non∧Q (.ref x) H2) E
def Binds (K:PySem.W.Frag) (fd:FuncData) (ps:List Str) (ds:List Value):Prop:=
 ∀(s:Shared) (us:List Value),K.In s.heap→(us++ds).length=ps.length→BindsTo s fd ⟨us,[]⟩ (ps.zip (us++ds))
theorem Binds.all {K:PySem.W.Frag} {fd:FuncData} {ps:List Str} (h: ∀us:List Value,us.length=ps.length→bindArgs fd ⟨us,[]⟩=pure (ps.zip us)):Binds K fd ps []:=fun s us _ hl=>by
 rw [List.append_nil] at hl ⊢
 exact .of_eq (h us hl)
def zef (CX:qQ) (X:Cx) (E:XK):Prop:=∀(pins:List (Addr×Obj)) (σ:St) (H:Hp) (s:Shared) (e:Value) (s':Shared),Inv X pins σ H s→CX X.stack H s E e s'→X.xe e s'
section
variable {X:Cx} {CX:qQ} {k:Nat} {f C:Addr} {fd:FuncData} {ps:List Str} {sp:Sp} {dvs:List V} {ds:List Value} {E:XK} {x m:Str} {p pos apos:Pos} {e o:Expr} {es:List Expr} {ta:TE} {t:TA}
theorem zsp {pins:List (Addr×Obj)} {σ:St} {H:Hp} {s:Shared} {Q:VK} {us:List Value} {vs:List V} (F:FnOk X.prog X.w X.K X.mg X.base CX k f fd ps sp) (hr:Room k X.A) (hb:Binds X.K fd ps ds) (hd:Vals dvs ds) (hx:zef CX X E)
  (I:Inv X pins σ H s) (r:Vals vs us) (h:sp (vs++dvs) H Q E):wpAny (model X.prog X.w) X.A (call (.ref f) us) (EP X pins σ Q) X.xe s:=by
 have r2:Vals (vs++dvs) (us++ds):=r.append hd
 have hl:(us++ds).length=ps.length:=by rw [←r2.length];exact F.len _ _ _ _ h
 refine wpAny_call (codeAny_mono (F.run X.A X.stack s H ⟨us,[]⟩ (us++ds) (vs++dvs) Q E hr I.env0 (hb s us I.kIn hl) r2 h) fun r s' hq=>?_)
 cases r with
 | error e=>exact hx pins σ H s e s' I hq
 | ok fl=>
  cases fl with
  | ret u=>exact I.after hq
  | next=>exact False.elim hq
  | brk=>exact False.elim hq
  | cont=>exact False.elim hq
theorem zuw (F:FnOk X.prog X.w X.K X.mg X.base CX k f fd ps sp) (hr:Room k X.A) (hg:Gl X x) (hm:X.mg x=some (.ref f)) (hk:PySem.W.keepIn X.K (.ref f)=true) (hb:Binds X.K fd ps ds) (hd:Vals dvs ds) (hx:zef CX X E)
  (ha:PA X (e::es) t) (hdb:(x==("__debug__" :Str))=false:=by decide) (he:starEach (e::es) X.env=(false,eval e X.env)::starEach es X.env:=by rfl) (hpl:(backTo pos (starEach es X.env)).any (·.1)=false:=by rfl):
  PE X (.Call (.Name x p) (e::es) [] pos) (zwr sp dvs E t):=by
 intro pins s σ H Q I h
 refine wpAny_Call_Name_kw (zkd I hg hm ?_ hdb)
 refine PySem.W.callWith_K (h₀:=X.base) I.ok.mod.kin hk (zt (ha pos pins s σ H _ I h) fun us s1 ⟨vs,H1,I1,r,q⟩=>⟨I1.kIn,?_⟩) he hpl
 exact zsp F hr hb hd hx I1 r q
theorem zuc {pl:Sem Bool} (he:PE X o ta) (c:Cls X.K C) (hm:Meth X.K C m f) (F:FnOk X.prog X.w X.K X.mg X.base CX k f fd ps sp) (hr:Room k X.A) (hb:Binds X.K fd ps ds) (hd:Vals dvs ds) (hx:zef CX X E) (ha:PA X (e::es) t)
  (hst:starEach (e::es) X.env=(false,eval e X.env)::starEach es X.env:=by rfl) (hpl:(backTo pos (starEach es X.env)).any (·.1)=false:=by rfl)
  (ht:eval (.Call (.Attribute o m apos) (e::es) [] pos) X.env=(do
   let ov ←eval o X.env
   standAt apos.atName
   let (f,first) ←holding [ov] (getMethod ov m pl)
   callWith pos f first (backTo pos (starEach (e::es) X.env)) (backToKw pos (keywordEach [] X.env))):=by rfl):
  PE X (.Call (.Attribute o m apos) (e::es) [] pos) (zwk C m sp dvs E ta t):=by
 intro pins s σ H Q I h
 refine PySem.W.methodCall_KW (pl:=pl) (zt (he pins s σ H _ I h) fun u s1 ⟨x,H1,I1,rx,a,dx,fs,ex,ea,l,q⟩=>?_) ht
 subst ex
 obtain rfl:u=Value.ref a:=rx
 refine zmz I1 ea c hm l ?_
 refine PySem.W.callWith_K (first:=[.ref a]) (h₀:=X.base) I.ok.mod.kin hm.kp (zt (ha pos pins s1 σ H1 _ I1 q) fun us s2 ⟨vs,H2,I2,r,q2⟩=>⟨I2.kIn,?_⟩) hst hpl
 exact zsp (us:= .ref a::us) (vs:= .ref a::vs) F hr hb hd hx I2 (.cons rfl r) q2
structure Mk (K:PySem.W.Frag) (C f:Addr):Prop where
 makes:PySem.W.makesIn K C=true
 init:PySem.W.findIn K (.ref C) "__init__" =some (some (.ref f))
 fn:PySem.W.isFn K (.ref f)=true
 kp:PySem.W.keepIn K (.ref C)=true
theorem zr1 {pins:List (Addr×Obj)} {σ:St} {H:Hp} {s:Shared} {Q:VK} {us:List Value} {vs:List V} (M:Mk X.K C f) (F:FnOk X.prog X.w X.K X.mg X.base CX k f fd ps sp) (hr:Room (k+1) X.A) (hb:Binds X.K fd ps ds) (hd:Vals dvs ds)
  (hx:zef CX X E) (I:Inv X pins σ H s) (r:Vals vs us)
  (h: ∀x dx,H x=none→H dx=none→dx≠x→sp (.ref x::(vs++dvs)) (zj (zj H dx (.own x)) x (.ins C dx [])) (fun v H2=>v= .non∧Q (.ref x) H2) E):
  wpAny (model X.prog X.w) X.A (call (.ref C) us) (EP X pins σ Q) X.xe s:=by
 have hq:=h (s.heap.objs.size+1) s.heap.objs.size (I.hok.fresh (Nat.le_succ _)) (I.hok.fresh (Nat.le_refl _)) (Nat.ne_of_lt (Nat.lt_succ_self _))
 have I2:=Inv.made (C:=C) I
 have r2:Vals (V.ref (s.heap.objs.size+1)::(vs++dvs)) (Value.ref (s.heap.objs.size+1)::(us++ds)):= .cons rfl (r.append hd)
 have hl:(Value.ref (s.heap.objs.size+1)::us++ds).length=ps.length:=by
  have e:=r2.length
  rw [F.len _ _ _ _ hq] at e
  exact e.symm
 refine wpAny_call (zqm (f:=f) I.kIn M.makes M.init (beq_iff_eq.mp M.fn) (codeAny_mono (F.run _ X.stack _ _ ⟨Value.ref (s.heap.objs.size+1)::us,[]⟩ (Value.ref (s.heap.objs.size+1)::(us++ds)) _ _ E (hr.make C us [])
  (I2.env0.make C us []) (hb _ (Value.ref (s.heap.objs.size+1)::us) I2.kIn hl) r2 hq) fun r s' hq'=>?_))
 cases r with
 | error e=>exact hx pins σ _ _ e s' I2 hq'
 | ok fl=>
  cases fl with
  | ret u=>
   obtain ⟨v,H',I3,rv,ev,q3⟩:=I2.after hq'
   subst ev
   exact ⟨rv,⟨V.ref (s.heap.objs.size+1),H',I3,rfl,q3⟩⟩
  | next=>exact False.elim hq'
  | brk=>exact False.elim hq'
  | cont=>exact False.elim hq'
theorem zth (M:Mk X.K C f) (F:FnOk X.prog X.w X.K X.mg X.base CX k f fd ps sp) (hr:Room (k+1) X.A) (hg:Gl X x) (hm:X.mg x=some (.ref C)) (hb:Binds X.K fd ps ds) (hd:Vals dvs ds) (hx:zef CX X E)
  (ha:PA X (e::es) t) (hdb:(x==("__debug__" :Str))=false:=by decide) (he:starEach (e::es) X.env=(false,eval e X.env)::starEach es X.env:=by rfl) (hpl:(backTo pos (starEach es X.env)).any (·.1)=false:=by rfl):
  PE X (.Call (.Name x p) (e::es) [] pos) (zyp C sp dvs E t):=by
 intro pins s σ H Q I h
 refine wpAny_Call_Name_kw (zkd I hg hm ?_ hdb)
 refine PySem.W.callWith_K (h₀:=X.base) I.ok.mod.kin M.kp (zt (ha pos pins s σ H _ I h) fun us s1 ⟨vs,H1,I1,r,q⟩=>⟨I1.kIn,?_⟩) he hpl
 exact zr1 M F hr hb hd hx I1 r q
end
section
variable {X:Cx} {CX:qQ} {k:Nat} {f C:Addr} {fd:FuncData} {ps ks:List Str} {sp:Sp} {E:XK} {x m:Str} {p pos apos kpos:Pos} {e o:Expr} {es:List Expr} {kws:List Keyword} {te ta:TE} {t tk:TA} {nm:Option Str}
variable {g:List Value→List Value→List Value} {gV:List V→List V→List V}
end
structure FnScope (N P:List Str) (sc:Scope):Prop where
 kind:sc.kind= .function
 co:sc.isCoroutine=false
 gen:sc.isGenerator=false
 nd:N.Nodup
 pre:N.take P.length=P
 par: ∀x∈P,sc.names.lookup x=some .local∨sc.names.lookup x=some .cell
 nofree: ∀y∈sc.names,y.2≠ .free
theorem zjo {kindOf:Str→Option NameKind} {x:Str}: ∀{binds:List (Str×Value)} {m:Str→Option Value},(∀v,(x,v)∉binds)→bindL kindOf binds m x=m x
 | [],_,_=>rfl
 | (n,v)::r,m,h=>by
  unfold bindL
  rw [zjo fun w hw=>h w (List.mem_cons_of_mem _ hw)]
  split
  ·have:x≠n:=by rintro rfl;exact h v List.mem_cons_self
   simp [this]
  ·rfl
theorem zi9 {kindOf:Str→Option NameKind} {x:Str}: ∀{binds:List (Str×Value)} {m:Str→Option Value},(∀v,(x,v)∉binds)→bindC kindOf binds m x=m x
 | [],_,_=>rfl
 | (n,v)::r,m,h=>by
  unfold bindC
  rw [zi9 fun w hw=>h w (List.mem_cons_of_mem _ hw)]
  split
  ·rfl
  ·have:x≠n:=by rintro rfl;exact h v List.mem_cons_self
   simp [this]
theorem zjn {kindOf:Str→Option NameKind} {x:Str} {v:Value}: ∀{P:List Str} {vs:List Value} {i:Nat} {m:Str→Option Value},P.Nodup→P[i]? =some x→vs[i]? =some v→kindOf x=some .local→
  bindL kindOf (P.zip vs) m x=some v
 | [],_,_,_,_,h,_,_=>by simp at h
 | _::_,[],_,_,_,_,h,_=>by simp at h
 | p::P,w::vs,0,m,nd,h1,h2,hk=>by
  simp at h1 h2;subst h1;subst h2
  show bindL kindOf ((p,w)::P.zip vs) m p=_
  unfold bindL
  rw [zjo fun v hv=>(List.nodup_cons.mp nd).1 (List.of_mem_zip hv).1,if_pos hk]
  simp
 | p::P,w::vs,i+1,m,nd,h1,h2,hk=>by
  show bindL kindOf ((p,w)::P.zip vs) m x=_
  unfold bindL
  exact zjn (i:=i) (List.nodup_cons.mp nd).2 (by simpa using h1) (by simpa using h2) hk
theorem zj0 {kindOf:Str→Option NameKind} {x:Str} {v:Value}: ∀{P:List Str} {vs:List Value} {i:Nat} {m:Str→Option Value},P.Nodup→P[i]? =some x→vs[i]? =some v→kindOf x≠some .local→
  bindC kindOf (P.zip vs) m x=some v
 | [],_,_,_,_,h,_,_=>by simp at h
 | _::_,[],_,_,_,_,h,_=>by simp at h
 | p::P,w::vs,0,m,nd,h1,h2,hk=>by
  simp at h1 h2;subst h1;subst h2
  show bindC kindOf ((p,w)::P.zip vs) m p=_
  unfold bindC
  rw [zi9 fun v hv=>(List.nodup_cons.mp nd).1 (List.of_mem_zip hv).1,if_neg hk]
  simp
 | p::P,w::vs,i+1,m,nd,h1,h2,hk=>by
  show bindC kindOf ((p,w)::P.zip vs) m x=_
  unfold bindC
  exact zj0 (i:=i) (List.nodup_cons.mp nd).2 (by simpa using h1) (by simpa using h2) hk
noncomputable def start (N:List Str) (vs:List V):St:=vs.map some++List.replicate (N.length - vs.length) none
noncomputable def cxOf (CX:qQ) (P:Program) (w:World) (K:PySem.W.Frag) (mg:Str→Option Value) (base:Heap) (N:List Str) (qual:Str) (scope:Scope) (f:Addr) (cd:Value) (A:Around) (outer:List Env) (s:Shared) (H:Hp) (E:XK):Cx where
 prog:=P
 w:=w
 K:=K
 mg:=mg
 base:=base
 A:=A.deeper (envOfC qual scope s.heap.objs.size f cd)
 N:=N
 s₀:=s
 H₀:=H
 env:=envOfC qual scope s.heap.objs.size f cd
 outer:=outer
 stack:=envOfC qual scope s.heap.objs.size f cd::outer
 ex:=[]
 calm:=true
 fn:=fun _=>true
 pn:=[]
 xe:=fun e s'=>wpAny (model P w) (A.deeper (envOfC qual scope s.heap.objs.size f cd)) (leaving (envOfC qual scope s.heap.objs.size f cd) e) (fun _ s''=>CX outer H s E e s'') (fun e' s''=>CX outer H s E e' s'') s'
theorem zl7 {sc:Scope} {n:Nat} {x:Str} (h:sc.names.lookup x=some .cell): ∃c,(cellsFrom n sc.names []).lookup x=some c:=by
 have q:=PySem.W.cellsFrom_some sc.names n [] (.inl h)
 exact Option.isSome_iff_exists.mp q
theorem zph {CX:qQ} {P:Program} {w:World} {K:PySem.W.Frag} {mg:Str→Option Value} {base:Heap} {N ps:List Str} {qual:Str} {scope:Scope} {f:Addr} {cd:Value} {A:Around} {outer:List Env} {s s1:Shared} {H:Hp} {E:XK} {us:List Value} {vs:List V}
  (S:FnScope N ps scope) (hd:A.handled=none) (e0:Env0 P w K mg base A outer s H) (hl:vs.length=ps.length) (r:Vals vs us)
  (x:InCallC s s.heap.objs.size (bindL (envOfC qual scope s.heap.objs.size f cd).kindOf (ps.zip us) fun _=>none) (cellsFrom (s.heap.objs.size+1) scope.names []) (bindC (envOfC qual scope s.heap.objs.size f cd).kindOf (ps.zip us) fun _=>none) s1):
  Inv (cxOf CX P w K mg base N qual scope f cd A outer s H E) [] (start N vs) H s1:=by
 have hpl:ps.length≤N.length:=by have:=congrArg List.length S.pre;rw [List.length_take] at this;omega
 obtain ⟨h1,tk,rfl,hk⟩:=x.done
 have noA: ∀b:Addr,b∉(cxOf CX P w K mg base N qual scope f cd A outer s H E).ex:=fun b z=>absurd (show b∈([]:List Addr) from z) (by simp)
 refine ⟨⟨e0.mod,S.kind,rfl,rfl,Nat.le_refl _,fun y z c h1 h2=>?_,fun y hy=>?_,fun y c _ h=>?_,fun _=>hd,Around.frames_deeper e0.frames,.inr ⟨rfl,rfl⟩,fun b z=>absurd z (noA b),e0.bs,e0.bsz,fun b _ _=>noA b,fun b z=>absurd z (noA b),e0.funs,e0.frf⟩,
  rfl,e0.bare,Un.kept hk,⟨_,x.toInCall.ns,fun i y v h1 h2 h3=>?_⟩,fun y c h=>⟨_,x.cell y c h⟩,e0.hok.fresh (Nat.le_refl _),fun y c h=>?_,fun p hp=>absurd (show p∈([]:List (Addr×Obj)) from hp) (by simp),e0.hok.kept hk,?_⟩
 ·exact name_of_addr x.apart (PySem.mem_of_lookup h1) (PySem.mem_of_lookup h2)
 ·have hy:scope.names.lookup y=some .cell∨scope.names.lookup y=some .free:=hy
  rcases hy with hy | hy
  ·exact zl7 hy
  ·exact absurd rfl (S.nofree _ (PySem.mem_of_lookup hy))
 ·exact Nat.le_of_lt (x.above y c (PySem.mem_of_lookup h))
 ·have hi:i < vs.length:=by
   unfold start at h2
   by_cases hi:i < vs.length
   ·exact hi
   ·rw [List.getElem?_append_right (by simpa using hi)] at h2
    rw [List.getElem?_replicate] at h2
    split at h2 <;> cases h2
  have ha:vs[i]? =some v:=by
   unfold start at h2
   rw [List.getElem?_append_left (by simpa using hi),List.getElem?_map] at h2
   cases e:vs[i]? with
   | none=>rw [e] at h2;cases h2
   | some a=>rw [e] at h2;cases h2;rfl
  obtain ⟨u,hu,rv⟩:=r.get ha
  have hp:ps[i]? =some y:=by
   rw [←S.pre,List.getElem?_take_of_lt (by omega)];exact h1
  have ndP:ps.Nodup:=by rw [←S.pre];exact S.nd.sublist (List.take_sublist _ _)
  refine ⟨u,rv,?_⟩
  rcases S.par y (List.mem_of_getElem? hp) with k | k
  ·exact .inl ⟨k,zjn ndP hp hu k⟩
  ·obtain ⟨c,e⟩:=zl7 (n:=s.heap.objs.size+1) k
   refine .inr ⟨.inl k,c,e,?_⟩
   have q:=x.cell y c e
   rw [zj0 ndP hp hu (by show scope.names.lookup y≠_;rw [k];decide)] at q
   exact q
 ·exact e0.hok.fresh (Nat.le_of_lt (x.above y c (PySem.mem_of_lookup h)))
 ·unfold start
  show _=N.length
  rw [List.length_append,List.length_map,List.length_replicate]
  omega
theorem zz0 {CX:qQ} {P:Program} {w:World} {K:PySem.W.Frag} {mg:Str→Option Value} {base:Heap} {k:Nat} {f:Addr} {name qual:Str} {params:Arguments} {body:List Stmt} {scope:Scope} {dV kV doc pm cdv ct oc:Value} {an od:Option Addr}
  {osl:Array (Option Value)} {N ps:List Str} {sp:Sp} (lk:K.lookup f=some ⟨oc,od,.func (PySem.W.fnOf name qual params body scope dV kV doc pm an cdv ct),osl⟩) (hcd:PySem.W.codeIn K cdv qual=true) (S:FnScope N ps scope)
  (len: ∀vs H Q E,sp vs H Q E→vs.length=ps.length)
  (hbody: ∀(A:Around) (outer:List Env) (s:Shared) (H:Hp) (vs:List V) (Q:VK) (E:XK),Room k (A.deeper (envOfC qual scope s.heap.objs.size f cdv))→sp vs H Q E→
   ∃t,yR (cxOf CX P w K mg base N qual scope f cdv A outer s H E) body t∧t {nx:=fun _ H'=>Q .non H',rt:=Q} (start N vs) H):
  FnOk P w K mg base CX (k+1) f (PySem.W.fnOf name qual params body scope dV kV doc pm an cdv ct) ps sp:=by
 refine ⟨len,fun A outer s H args us vs Q E hr e0 hb r hsp=>?_⟩
 have hl:=len _ _ _ _ hsp
 have KX:K.In s.heap:=e0.mod.kin.keeps fun b o e=>(e0.bs b o e).1
 have lim:s.heap.NoLimit:=e0.mod.nolimit.keeps fun b o e=>(e0.bs b o e).1
 have hkind: ∀y∈ps.zip us,scope.names.lookup y.1=some .local∨(scope.names.lookup y.1=some .cell∧((cellsFrom (s.heap.objs.size+1) scope.names []).lookup y.1).isSome=true):=fun ⟨n,v⟩ hy=>by
  rcases S.par n (List.of_mem_zip hy).1 with q | q
  ·exact .inl q
  ·exact .inr ⟨q,PySem.W.cellsFrom_some _ _ _ (.inl q)⟩
 refine codeAny_call_function hr.depth (KX _ _ lk) rfl S.co S.gen rfl (PySem.W.codeRec_of KX hcd) (hb _ _ _ _ ?_)
 refine wpAny_newFunctionEnv_cells S.kind hkind fun env he s1 x=>?_
 subst he
 refine ⟨lim.keeps x.toInCall.keep,codeAny_func ?_⟩
 obtain ⟨t,ht,hq⟩:=hbody A outer s H vs Q E (hr.deeper _) hsp
 have I:Inv (cxOf CX P w K mg base N qual scope f cdv A outer s H E) [] (start N vs) H s1:=zph S hr.hd e0 hl r x
 refine wpAny_mono (ht [] s1 (start N vs) H _ I hq) (fun fl s' hs=>?_) fun e s' hs=>hs
 have fin: ∀{σ':St} {H':Hp} {v:V} {u:Value},Inv (cxOf CX P w K mg base N qual scope f cdv A outer s H E) [] σ' H' s'→RelV v u→Q v H'→CE outer P w H s Q u s':=
  fun {σ' H' v u} J rv q=>⟨v,H',J.os,J.bare,J.base,J.hok,rv,q⟩
 cases fl with
 | ret u=>
  obtain ⟨v,σ',H',J,rv,q⟩:=hs
  exact fin J rv q
 | next=>
  obtain ⟨σ',H',J,q⟩:=hs
  exact fin (v:=V.non) (u:=Value.none) J rfl q
 | brk=>
  obtain ⟨_,_,_,q⟩:=hs
  exact False.elim q
 | cont=>
  obtain ⟨_,_,_,q⟩:=hs
  exact False.elim q
section
variable {X:Cx} {x:Str} {p pos:Pos} {e:Expr} {es:List Expr} {t:TA} {id T:String} {r:List V→Hp→VK→Prop}
def tCB (r:List V→Hp→VK→Prop) (t:TA):TE:=fun σ H Q=>t σ H fun vs H1=>r vs H1 Q
theorem zq0 (hc:CallR X (.builtin id) r) (hg:Gl X x) (hm:X.mg x=none) (hv:bootBuiltins x=some (.builtin id)) (ha:PA X (e::es) t) (hn:x≠"__name__" :=by decide) (hdb:(x==("__debug__" :Str))=false:=by decide)
  (he:starEach (e::es) X.env=(false,eval e X.env)::starEach es X.env:=by rfl) (hpl:(backTo pos (starEach es X.env)).any (·.1)=false:=by rfl):PE X (.Call (.Name x p) (e::es) [] pos) (tCB r t):=by
 intro pins s σ H Q I h
 refine wpAny_Call_Name_kw (ze3 I hg hm hv ?_ hn hdb)
 exact PyProof.Rows.callWith_builtin1 (zt (ha pos pins s σ H _ I h) fun us s1 ⟨vs,H1,I1,r1,q1⟩=>hc pins s1 σ H1 vs us Q I1 r1 q1) he hpl
theorem zou (hc:CallR X (.type T) r) (hg:Gl X x) (hm:X.mg x=none) (hv:bootBuiltins x=some (.type T)) (ha:PA X (e::es) t) (hn:x≠"__name__" :=by decide) (hdb:(x==("__debug__" :Str))=false:=by decide)
  (he:starEach (e::es) X.env=(false,eval e X.env)::starEach es X.env:=by rfl) (hpl:(backTo pos (starEach es X.env)).any (·.1)=false:=by rfl):PE X (.Call (.Name x p) (e::es) [] pos) (tCB r t):=by
 intro pins s σ H Q I h
 refine wpAny_Call_Name_kw (ze3 I hg hm hv ?_ hn hdb)
 exact PyProof.Rows.callWith_type1 (zt (ha pos pins s σ H _ I h) fun us s1 ⟨vs,H1,I1,r1,q1⟩=>hc pins s1 σ H1 vs us Q I1 r1 q1) he hpl
end
end L2
namespace HT
open PySem PyProof.Rows
section
open PySem.SeqAt
open PySem.AutoSeq1 (wpAny_loadPart')
open PySem.MeetsSeq PySem.MeetsSeq2 PySem.MeetsSeq3
end
section
variable {prog:Program} {w:World} {A:Around} {E:Value→Shared→Prop} {s:Shared}
end
end HT
namespace L2
open PySem PySem.Spec PyProof.Rows
section
variable {X:Cx} {e:Expr} {te:TE} {lo hi:Option Expr} {tl th:TO} {pos p2:Pos}
end
noncomputable def qf (n:Nat) (i:Int):Option Nat:=if 0≤i then (if i < n then some i.toNat else none) else if -(n:Int)≤i then some (i+n).toNat else none
def atI {α:Type} (xs:List α) (i:Int):Option α:=(qf xs.length i).bind fun j=>xs[j]?
theorem znw {n:Nat} {i:Int} {j:Nat} (h:qf n i=some j):seqIndex? i n=some j∧j < n∧ -(n:Int)≤i∧i < n:=by
 unfold qf at h
 by_cases h0:0≤i
 ·rw [if_pos h0] at h
  by_cases h1:i < n
  ·rw [if_pos h1] at h
   have e:i.toNat=j:=Option.some.inj h
   exact ⟨by rw [seqIndex_of h0 h1,e],by omega,by omega,h1⟩
  ·rw [if_neg h1] at h;cases h
 ·rw [if_neg h0] at h
  by_cases h1: -(n:Int)≤i
  ·rw [if_pos h1] at h
   have e:(i+n).toNat=j:=Option.some.inj h
   exact ⟨by rw [seqIndex_neg (by omega) h1,e],by omega,h1,by omega⟩
  ·rw [if_neg h1] at h;cases h
theorem zko {α:Type} {xs:List α} {i:Int} {v:α} (h:atI xs i=some v): ∃j,seqIndex? i xs.length=some j∧xs[j]? =some v∧j < xs.length∧ -(xs.length:Int)≤i∧i < xs.length:=by
 unfold atI at h
 cases e:qf xs.length i with
 | none=>rw [e] at h;cases h
 | some j=>
  rw [e] at h
  obtain ⟨h1,h2,h3,h4⟩:=znw e
  exact ⟨j,h1,h,h2,h3,h4⟩
theorem qz {α:Type} {xs:List α} {j:Nat} {v:α} (h:xs[j]? =some v):atI xs (j:Int)=some v:=by
 have hj:j < xs.length:=(List.getElem?_eq_some_iff.mp h).1
 have e:qf xs.length (j:Int)=some j:=by
  unfold qf
  rw [if_pos (by omega),if_pos (by omega)];simp
 unfold atI;rw [e];exact h
theorem zra {α:Type} (xs:List α) (v:α):atI (xs++[v]) (-1)=some v:=by
 have hl:(xs++[v]).length=xs.length+1:=by simp
 have e:qf (xs++[v]).length (-1)=some xs.length:=by
  unfold qf
  rw [hl,if_neg (by decide),if_pos (by omega)]
  congr 1
  omega
 unfold atI
 rw [e]
 show (xs++[v])[xs.length]? =some v
 simp
def zo7 (b:Expr):Prop:=∀o i,subscripted b false o i=operate [o,i] (getItem o i)
def IxR (X:Cx) (r:R2):Prop:=
 ∀(value slice:Expr) (pins:List (Addr×Obj)) (s:Shared) (σ:St) (H:Hp) (x y:V) (v u:Value) (Q:VK),Inv X pins σ H s→RelV x v→RelV y u→r x y H Q→
  subscripted slice false v u=operate [v,u] (getItem v u)→wpAny (model X.prog X.w) X.A (subscriptTail value slice v u) (EP X pins σ Q) X.xe s
def MtR (X:Cx) (id:String) (r:V→List V→Hp→VK→Prop):Prop:=
 ∀(pins:List (Addr×Obj)) (s:Shared) (σ:St) (H:Hp) (x:V) (xs:List V) (v:Value) (us:List Value) (Q:VK),Inv X pins σ H s→RelV x v→Vals xs us→r x xs H Q→
  wpAny (model X.prog X.w) X.A (call (.builtin id) (v::us)) (EP X pins σ Q) X.xe s
section
variable {X:Cx} {a b:Expr} {ta tb:TE} {pos:Pos}
theorem IxR.or {r r':R2} (h:IxR X r) (h':IxR X r'):IxR X (fun x y H Q=>r x y H Q∨r' x y H Q):=by
 intro value slice pins s σ H x y v u Q I rx ry q hs
 rcases q with q | q
 ·exact h value slice pins s σ H x y v u Q I rx ry q hs
 ·exact h' value slice pins s σ H x y v u Q I rx ry q hs
theorem zz5 {r:R2} (hr:IxR X r) (ha:PE X a ta) (hb:PE X b tb) (hs:zo7 b):PE X (.Subscript a b pos) (tOp r ta tb):=by
 intro pins s σ H Q I h
 exact Subscript_ (binT ha hb I h fun v u s2 x y H2 I2 rx ry q=>hr a b pins s2 σ H2 x y v u Q I2 rx ry q (hs _ _))
def rIxL (K:PySem.W.Frag):R2:=fun x y H Q=> ∃p xs i v,x= .ref p∧y= .int i∧SqL K H p xs∧atI xs i=some v∧Q v H
def rIxT (K:PySem.W.Frag):R2:=fun x y H Q=> ∃p xs i v,x= .ref p∧y= .int i∧SqT K H p xs∧atI xs i=some v∧Q v H
def rIxS:R2:=fun x y H Q=> ∃z i c,x= .str z∧y= .int i∧z.length≤sizeLine∧atI z.cps.toList i=some c∧Q (.str ⟨#[c]⟩) H
theorem ix_list:IxR X (rIxL X.K):=by
 intro value slice pins s σ H x y v u Q I rx ry h hs
 obtain ⟨p,xs,i,z,rfl,rfl,hq,he,q⟩:=h
 cases rx
 obtain ⟨t,rfl⟩:=ry
 obtain ⟨its,r,pl,hz⟩:=I.list hq
 obtain ⟨j,h1,h2,h3,h4,h5⟩:=zko he
 obtain ⟨w,ew,rw'⟩:=r.get h2
 have hl:=r.length
 have hn:=zhi
 have fin:EP X pins σ Q w s:=⟨z,H,I,rw',q⟩
 by_cases h0:0≤i
 ·have hj:i.toNat=j:=by
   rw [seqIndex_of h0 h5] at h1
   exact Option.some.inj h1
  exact item_listR pl.isList h0 (by omega) (by rw [hj];simpa using ew) fin hs
 ·have hj:(i+(its.toArray.size:Int)).toNat=j:=by
   rw [seqIndex_neg (by omega) h4] at h1
   rw [List.size_toArray,←hl]
   exact Option.some.inj h1
  exact subscriptTail_builtinR (x:=w) pl.isList.typeIs slot_list_getitem.lookup
   (wpAny_getItem_list_neg (Q:=fun r s'=>r=w∧EP X pins σ Q r s') pl.isList (by omega) (by rw [List.size_toArray] <;> omega) (by omega) (by rw [hj];simpa using ew) ⟨rfl,fin⟩) hs
theorem ix_tup:IxR X (rIxT X.K):=by
 intro value slice pins s σ H x y v u Q I rx ry h hs
 obtain ⟨p,xs,i,z,rfl,rfl,hq,he,q⟩:=h
 cases rx
 obtain ⟨t,rfl⟩:=ry
 obtain ⟨its,r,pl,hz⟩:=I.tuple hq
 obtain ⟨j,h1,h2,h3,h4,h5⟩:=zko he
 obtain ⟨w,ew,rw'⟩:=r.get h2
 have hl:=r.length
 have hn:=zhi
 have fin:EP X pins σ Q w s:=⟨z,H,I,rw',q⟩
 exact subscriptTail_builtinR (x:=w) pl.typeIs slot_tuple_getitem.lookup
  (getItem_tuple (j:=j) (Q:=fun r s'=>r=w∧EP X pins σ Q r s') pl (by omega) (by omega) (by rw [List.size_toArray,←hl];exact h1) (by simpa using ew) ⟨rfl,fin⟩) hs
theorem zw6:IxR X rIxS:=by
 intro value slice pins s σ H x y v u Q I rx ry h hs
 obtain ⟨z,i,c,rfl,rfl,hz,he,q⟩:=h
 obtain ⟨t,rfl⟩:=rx
 obtain ⟨t',rfl⟩:=ry
 obtain ⟨j,h1,h2,h3,h4,h5⟩:=zko he
 have hl:z.cps.toList.length=z.length:=by simp [Str.length]
 rw [hl] at h1 h4 h5
 have hn:=zhi
 exact tail_any (typeIs_str s z t) slot_str_getitem.lookup (getItem_str (c:=c) (by
  have e1:decide (i < -(2 ^ 63:Int))=false:=decide_eq_false (by omega)
  have e2:decide (i≥2 ^ 63)=false:=decide_eq_false (by omega)
  rw [e1,e2,Bool.or_false]) (by rw [h1];simpa using h2) ⟨.str ⟨#[c]⟩,H,I.tok _,⟨_,rfl⟩,q⟩) hs
theorem zne (its:List Value) (n j:Nat) (u:Value):Obj.mapSeq (·.setIfInBounds j u) {cls:= .type "list",data:= .seq its.toArray n}={cls:= .type "list",data:= .seq (its.set j u).toArray n}:=by
 simp [Obj.mapSeq]
theorem Inv.lst {pins:List (Addr×Obj)} {σ:St} {H:Hp} {s:Shared} {p:Addr} {xs:List V} (I:Inv X pins σ H s) (h:H p=some (.lst xs)):
  ∃(its:List Value) (n:Nat),Vals xs its∧s.heap.get? p=some {cls:= .type "list",data:= .seq its.toArray n}∧xs.length≤sizeLine:=by
 obtain ⟨z,its,n,r,e⟩:=I.hok p _ h
 exact ⟨its,n,r,e,z⟩
theorem Inv.lstUpd {pins:List (Addr×Obj)} {σ:St} {H:Hp} {s:Shared} {p:Addr} {xs ys:List V} {its its':List Value} {n n':Nat} {f:Obj→Obj} (I:Inv X pins σ H s) (h:H p=some (.lst xs))
  (ho:s.heap.get? p=some {cls:= .type "list",data:= .seq its.toArray n}) (hf:f {cls:= .type "list",data:= .seq its.toArray n}={cls:= .type "list",data:= .seq its'.toArray n'}) (r:Vals ys its') (hz:ys.length≤sizeLine) (t:Nat):
  Inv X pins σ (zj H p (.lst ys)) {s with heap:=s.heap.update p f,toks:=t}:=by
 have e:(s.heap.update p f).get? p=some {cls:= .type "list",data:= .seq its'.toArray n'}:=by
  rw [Heap.get?_update_self f ho (by rw [hf] <;> rfl),hf]
 refine I.write (x:=p) (e:=p) (by rw [h];trivial) (.inl rfl) (fun b u hb q=>(Heap.get?_update_other _ _ (Ne.symm hb)).trans q) ⟨_,e⟩ ?_
 exact ⟨hz,its',n',r,e⟩
def zt7:V→V→V→Hp→(Hp→Prop)→Prop:=fun o i v H Q=> ∃p xs k j,o= .ref p∧i= .int k∧H p=some (.lst xs)∧qf xs.length k=some j∧Q (zj H p (.lst (xs.set j v)))
theorem zl1:PSet X zt7:=by
 intro pins s σ H o i v ov iv u Q I ro ri rv h
 obtain ⟨p,xs,k,j,rfl,rfl,hp,hj,q⟩:=h
 cases ro
 obtain ⟨t,rfl⟩:=ri
 obtain ⟨its,n,r,ho,hz⟩:=I.lst hp
 obtain ⟨h1,h2,h3,h4⟩:=znw hj
 have hl:=r.length
 have hn:=zhi
 have I':Inv X pins σ (zj H p (.lst (xs.set j v))) {s with heap:=s.heap.update p (Obj.mapSeq (·.setIfInBounds j u))}:=
  I.lstUpd hp ho (zne its n j u) (r.set rv j) (by rw [List.length_set];exact hz) s.toks
 by_cases h0:0≤k
 ·have hk:k.toNat=j:=by
   rw [seqIndex_of h0 h4] at h1
   exact Option.some.inj h1
  exact PySem.W.ki_setAt ho h0 (by omega) (by rw [List.size_toArray,←hl];exact h4) (by rw [hk];exact ⟨_,I',q⟩)
 ·have hk:(k+(its.toArray.size:Int)).toNat=j:=by
   rw [seqIndex_neg (by omega) h3] at h1
   rw [List.size_toArray,←hl]
   exact Option.some.inj h1
  exact PySem.W.ki_setBack ho (by omega) (by rw [List.size_toArray,←hl];exact h3) (by omega) (by rw [hk];exact ⟨_,I',q⟩)
def zki:V→Bool
 | .non=>true
 | .bl _=>true
 | .int _=>true
 | .str _=>true
 | _=>false
noncomputable def eqV:V→V→Bool
 | .non,.non=>true
 | .bl a,.bl b=>a==b
 | .bl a,.int b=>(if a then 1 else 0)==b
 | .int a,.bl b=>a==(if b then 1 else 0)
 | .int a,.int b=>a==b
 | .str a,.str b=>a==b
 | _,_=>false
theorem zsr {A:Around} {s:Shared} {y x:V} {u v:Value} (ry:RelV y u) (rx:RelV x v) (fy:zki y=true) (fx:zki x=true):SeqAt.EqAt A s u v (eqV y x):=by
 cases y with
 | non=>
  cases ry
  cases x with
  | non=>cases rx;exact SeqAt.EqAt.same _
  | bl b=>cases rx;exact SeqAt.EqAt.none_bool b
  | int b=>obtain ⟨t,rfl⟩:=rx;exact SeqAt.EqAt.none_int b t
  | str b=>obtain ⟨t,rfl⟩:=rx;exact SeqAt.EqAt.none_str b t
  | _=>exact absurd (show false=true from fx) Bool.false_ne_true
 | bl a=>
  cases ry
  cases x with
  | non=>cases rx;exact SeqAt.EqAt.bool_none a
  | bl b=>cases rx;exact SeqAt.EqAt.bool_bool a b
  | int b=>obtain ⟨t,rfl⟩:=rx;exact SeqAt.EqAt.bool_int a b t
  | str b=>obtain ⟨t,rfl⟩:=rx;exact SeqAt.EqAt.bool_str a b t
  | _=>exact absurd (show false=true from fx) Bool.false_ne_true
 | int a=>
  obtain ⟨t',rfl⟩:=ry
  cases x with
  | non=>cases rx;exact SeqAt.EqAt.int_none a t'
  | bl b=>cases rx;exact SeqAt.EqAt.int_bool a t' b
  | int b=>obtain ⟨t,rfl⟩:=rx;exact SeqAt.EqAt.int_int a t' b t
  | str b=>obtain ⟨t,rfl⟩:=rx;exact SeqAt.EqAt.int_str a t' b t
  | _=>exact absurd (show false=true from fx) Bool.false_ne_true
 | str a=>
  obtain ⟨t',rfl⟩:=ry
  cases x with
  | non=>cases rx;exact SeqAt.EqAt.str_none a t'
  | bl b=>cases rx;exact SeqAt.EqAt.str_bool a t' b
  | int b=>obtain ⟨t,rfl⟩:=rx;exact SeqAt.EqAt.str_int a t' b t
  | str b=>obtain ⟨t,rfl⟩:=rx;exact SeqAt.EqAt.str_str a t' b t
  | _=>exact absurd (show false=true from fx) Bool.false_ne_true
 | _=>exact absurd (show false=true from fy) Bool.false_ne_true
theorem CallR.or {f:Value} {r r':List V→Hp→VK→Prop} (h:CallR X f r) (h':CallR X f r'):CallR X f (fun xs H Q=>r xs H Q∨r' xs H Q):=by
 intro pins s σ H xs us Q I rs q
 rcases q with q | q
 ·exact h pins s σ H xs us Q I rs q
 ·exact h' pins s σ H xs us Q I rs q
def tyV (K:PySem.W.Frag) (T:String) (x:V) (H:Hp):Prop:=match x with
 | .str _=>T="str"
 | .int _=>T="int"
 | .ref p=>(T="list" ∧∃xs,SqL K H p xs)∨(T="tuple" ∧∃o,K.lookup p=some o∧o.cls= .type "tuple" ∧o.dict=none)∨
  (T="dict" ∧((∃kvs,H p=some (.dK kvs))∨∃kvs,H p=some (.dT kvs)))∨(T="set" ∧∃S n,H p=some (.set S n))
 | _=>False
theorem zsi {pins:List (Addr×Obj)} {σ:St} {H:Hp} {s:Shared} {T:String} {x:V} {v:Value} (I:Inv X pins σ H s) (r:RelV x v) (ty:tyV X.K T x H):
  s.TypeIs v T∧∀a,v= .ref a→∃ob,s.heap.get? a=some ob∧ob.dict=none:=by
 cases x with
 | str z=>
  obtain ⟨t,rfl⟩:=r
  cases (show T="str" from ty)
  exact ⟨typeIs_str s z t,fun _ e=>nomatch e⟩
 | int i=>
  obtain ⟨t,rfl⟩:=r
  cases (show T="int" from ty)
  exact ⟨typeIs_int s i t,fun _ e=>nomatch e⟩
 | ref p=>
  cases r
  rcases ty with ⟨rfl,xs,hq⟩ | ⟨rfl,o,hk,hc,hd⟩ | ⟨rfl,hk⟩ | ⟨rfl,S,n,hk⟩
  ·obtain ⟨its,_,pl,_⟩:=I.list hq
   refine ⟨pl.isList.typeIs,fun a e=>?_⟩
   cases e
   obtain ⟨o,n,e,c,hd,_⟩:=pl
   exact ⟨o,e,hd⟩
  ·refine ⟨⟨o,I.kIn p o hk,hc⟩,fun a e=>?_⟩
   cases e
   exact ⟨o,I.kIn _ o hk,hd⟩
  ·have z: ∃o,s.heap.get? p=some o∧o.ExactDict:=by
    rcases hk with ⟨kvs,hk⟩ | ⟨kvs,hk⟩
    ·obtain ⟨_,_,_,_,o,_,_,e,ex,_⟩:=I.hok p _ hk
     exact ⟨o,e,ex⟩
    ·obtain ⟨_,_,_,_,o,_,_,e,ex,_⟩:=I.hok p _ hk
     exact ⟨o,e,ex⟩
   obtain ⟨o,e,ex⟩:=z
   refine ⟨⟨o,e,ex.1⟩,fun a e2=>?_⟩
   cases e2
   exact ⟨o,e,ex.2.1⟩
  ·obtain ⟨o,_,_,_,e,ex,_⟩:=I.hok p _ hk
   refine ⟨⟨o,e,ex.1⟩,fun a e2=>?_⟩
   cases e2
   exact ⟨o,e,ex.2.1⟩
 | _=>exact False.elim ty
def tBM0 (K:PySem.W.Frag) (T:String) (r:V→List V→Hp→VK→Prop) (to:TE):TE:=fun σ H Q=>to σ H fun x H1=>tyV K T x H1∧r x [] H1 Q
def tBM (K:PySem.W.Frag) (T:String) (r:V→List V→Hp→VK→Prop) (to:TE) (t:TA):TE:=fun σ H Q=>to σ H fun x H1=>tyV K T x H1∧t σ H1 fun xs H2=>r x xs H2 Q
variable {o e:Expr} {es:List Expr} {to:TE} {t:TA} {name:Str} {apos cpos:Pos} {T id:String} {r:V→List V→Hp→VK→Prop}
theorem zxv (pa:PlainAttrs T) (slot:Slot T name id) (hty:typeOf (.builtin id)=pure (.type "method_descriptor")) (hm:MtR X id r) (ho:PE X o to)
  (hbase:attributeBase o name X.env (eval o X.env)=eval o X.env:=by rfl) (hline:(apos.endLine==cpos.line)=true:=by rfl):PE X (.Call (.Attribute o name apos) [] [] cpos) (tBM0 X.K T r to):=by
 intro pins s σ H Q I h
 refine wpAny_Call_method0_late hbase hline (zt (ho pins s σ H _ I h) fun v s1 ⟨x,H1,I1,r1,ty,q1⟩=>?_)
 obtain ⟨h1,h2⟩:=zsi I1 r1 ty
 exact ⟨T,id,pa,slot,hty,h1,h2,Calls.callWith_builtin rfl (PySem.evalArgs_none (hm pins s1 σ H1 x [] v [] Q I1 r1 .nil q1))⟩
theorem zz1 (pa:PlainAttrs T) (slot:Slot T name id) (hty:typeOf (.builtin id)=pure (.type "method_descriptor")) (hm:MtR X id r) (ho:PE X o to) (ha:PA X (e::es) t)
  (hbase:attributeBase o name X.env (eval o X.env)=eval o X.env:=by rfl)
  (hfew:((backTo cpos (starEach (e::es) X.env)).all (fun x=> !x.1) && (backToKw cpos (keywordEach [] X.env)).all (fun x=>x.1.isSome)
   && decide ((e::es).length+([]:List Keyword).length+(if ([]:List Keyword).isEmpty then 0 else 1) < 30))=true:=by rfl)
  (hline:(apos.endLine==cpos.line)=true:=by rfl) (hs:starEach (e::es) X.env=(false,eval e X.env)::starEach es X.env:=by rfl) (hplain:(backTo cpos (starEach es X.env)).any (·.1)=false:=by rfl):
  PE X (.Call (.Attribute o name apos) (e::es) [] cpos) (tBM X.K T r to t):=by
 intro pins s σ H Q I h
 refine wpAny_Call_method_late hbase hfew hline rfl (zt (ho pins s σ H _ I h) fun v s1 ⟨x,H1,I1,r1,ty,q1⟩=>?_)
 obtain ⟨h1,h2⟩:=zsi I1 r1 ty
 refine ⟨T,id,pa,slot,hty,h1,h2,?_⟩
 have hA:=ha cpos pins s1 σ H1 _ I1 q1
 rw [hs] at hA ⊢
 refine Calls.callWith_builtin (by show (false || (backTo cpos (starEach es X.env)).any (·.1))=false;rw [hplain] <;> rfl) (Calls.evalArgs_plain ?_)
 exact zt hA fun us s2 ⟨vs,H2,I2,r2,q2⟩=>hm pins s2 σ H2 x vs v us Q I2 r1 r2 q2
end
def MtM (X:Cx) (id:String) (r:V→List V→Hp→VK→Prop):Prop:=
 ∀(pins:List (Addr×Obj)) (s:Shared) (σ:St) (H:Hp) (x:V) (xs:List V) (v:Value) (us:List Value) (Q:VK),Inv X pins σ H s→RelV x v→Vals xs us→r x xs H Q→
  wpAny (model X.prog X.w) X.A (call (.builtin id) (v::us)) (EP X pins σ Q) X.xe s
theorem Vals.one: ∀{x:V} {us:List Value},Vals [x] us→∃u,us=[u]∧RelV x u
 | _,_,.cons r .nil=>⟨_,rfl,r⟩
theorem Vals.zero: ∀{us:List Value},Vals [] us→us=[]
 | _,.nil=>rfl
theorem Vals.dropLast {xs:List V} {us:List Value} (h:Vals xs us):Vals xs.dropLast us.dropLast:=by
 induction h with
 | nil=>exact .nil
 | cons r t ih=>
  cases t with
  | nil=>exact .nil
  | cons q t'=>exact .cons r ih
theorem Vals.rep {xs:List V} {us:List Value} (h:Vals xs us): ∀k:Nat,Vals (List.replicate k xs).flatten (List.replicate k us).flatten
 | 0=> .nil
 | k+1=>by
  rw [List.replicate_succ,List.replicate_succ,List.flatten_cons,List.flatten_cons]
  exact Vals.append h (Vals.rep h k)
theorem zm8 {α:Type} (l:List α):l.eraseIdx (l.length - 1)=l.dropLast:=by
 induction l with
 | nil=>rfl
 | cons a r ih=>
  cases r with
  | nil=>rfl
  | cons b r=>
   have e:(a::b::r).length - 1=((b::r).length - 1)+1:=by
    have h1:(a::b::r).length=r.length+2:=rfl
    have h2:(b::r).length=r.length+1:=rfl
    omega
   rw [e,List.eraseIdx_cons_succ,ih]
   all_goals rfl
theorem zjp (its:List Value): ∀(k:Nat) (acc:List Value),
  List.foldl (fun x1 x2=>x1++x2) acc.toArray (List.replicate k its.toArray)=(acc++(List.replicate k its).flatten).toArray
 | 0,acc=>by simp
 | k+1,acc=>by
  have e:acc.toArray++its.toArray=(acc++its).toArray:=by simp
  have e2:(acc++its)++(List.replicate k its).flatten=acc++(List.replicate (k+1) its).flatten:=by
   rw [List.replicate_succ,List.flatten_cons,List.append_assoc]
  rw [←e2,←zjp its k (acc++its),←e,List.replicate_succ,List.foldl_cons]
section
variable {X:Cx} {pins:List (Addr×Obj)} {σ:St} {H:Hp} {s:Shared} {l b:Addr} {xs ys zs:List V}
theorem Inv.lset {its its':List Value} {n:Nat} {f:Array Value→Array Value} {t':Nat} (I:Inv X pins σ H s) (hH:H l=some (.lst xs))
  (e:s.heap.get? l=some {cls:= .type "list",data:= .seq its.toArray n}) (hf:f its.toArray=its'.toArray) (hv:Vals ys its') (hz:ys.length≤sizeLine):
  Inv X pins σ (zj H l (.lst ys)) {s with heap:=s.heap.update l (Obj.mapSeq f),toks:=t'}:=by
 have q:=PySem.IsL.update e f
 rw [hf] at q
 refine I.write (x:=l) (e:=l) (by rw [hH];exact trivial) (.inl rfl) (fun b' u hb hu=>(Heap.get?_update_other s.heap (Obj.mapSeq f) (Ne.symm hb)).trans hu) ⟨_,q⟩ ?_
 exact ⟨hz,its',_,hv,q⟩
theorem Inv.lnew {its:List Value} {t':Nat} (I:Inv X pins σ H s) (hv:Vals ys its) (hz:ys.length≤sizeLine):
  Inv X pins σ (zj H s.heap.objs.size (.lst ys)) {s with heap:=s.heap.push {cls:= .type "list",data:= .seq its.toArray},toks:=t'}:=
 I.laid (fun _ _ q=>Heap.get?_push_of_some _ q) (Nat.le_refl _) ⟨hz,its,0,hv,Heap.get?_push_size _ rfl⟩
theorem Inv.fresh (I:Inv X pins σ H s):H s.heap.objs.size=none:=I.hok.fresh (Nat.le_refl _)
theorem Inv.lstM (I:Inv X pins σ H s) (hH:H l=some (.lst xs)):xs.length≤sizeLine∧∃(its:List Value) (n:Nat),Vals xs its∧xs.length=its.length∧s.heap.get? l=some {cls:= .type "list",data:= .seq its.toArray n}:=by
 obtain ⟨z,its,n,r,e⟩:=I.hok l _ hH
 exact ⟨z,its,n,r,r.length,e⟩
theorem zmt {n:Nat} (h:n≤sizeLine):Builtin.List.listTooLong n=false:=by
 unfold Builtin.List.listTooLong
 exact decide_eq_false (by omega)
end
section
variable {X:Cx}
def zn1:V→List V→Hp→VK→Prop:=fun x vs H Q=> ∃l xs y,x= .ref l∧vs=[y]∧H l=some (.lst xs)∧xs.length < sizeLine∧Q .non (zj H l (.lst (xs++[y])))
theorem qW:MtM X "list.append" zn1:=by
 intro pins s σ H x vs v us Q I rx rv h
 obtain ⟨l,xs,y,rfl,rfl,hH,hz,q⟩:=h
 cases rx
 obtain ⟨u,rfl,ru⟩:=rv.one
 obtain ⟨z,its,n,r,hl,e⟩:=I.lstM hH
 refine call_meets F.slot_list_append ⟨_,e,rfl⟩ F.entry_list_append (F.args_list_append_2 _ _) (PySem.list_append l its.toArray n u (by rw [List.size_toArray];omega)) ⟨e,?_⟩
 refine ⟨.non,_,I.lset (its':=its++[u]) hH e (by simp) (r.append (.cons ru .nil)) ?_,rfl,q⟩
 rw [List.length_append,List.length_singleton]
 omega
def zol:V→List V→Hp→VK→Prop:=fun x vs H Q=> ∃l b xs zs,x= .ref l∧vs=[.ref b]∧H l=some (.lst xs)∧H b=some (.lst zs)∧xs.length+zs.length≤sizeLine∧Q .non (zj H l (.lst (xs++zs)))
theorem zow:MtM X "list.extend" zol:=by
 intro pins s σ H x vs v us Q I rx rv h
 obtain ⟨l,b,xs,zs,rfl,rfl,hH,hB,hz,q⟩:=h
 cases rx
 obtain ⟨u,rfl,ru⟩:=rv.one
 cases ru
 obtain ⟨z,its,n,r,hl,e⟩:=I.lstM hH
 obtain ⟨z2,its2,n2,r2,hl2,e2⟩:=I.lstM hB
 have hsz:its.toArray.size+its2.toArray.size≤sizeLine:=by rw [List.size_toArray,List.size_toArray];omega
 have hlong: ¬(!its.toArray.isEmpty && Builtin.List.listTooLong (its.toArray.size+its2.toArray.size))=true:=by
  rw [zmt hsz,Bool.and_false]
  exact Bool.false_ne_true
 refine call_meets F.slot_list_extend ⟨_,e,rfl⟩ F.entry_list_extend (F.args_list_extend_2 _ _)
  (AutoSeq1.list_extend_list_list_0 l its.toArray n b its2.toArray n2 hlong (by rw [List.size_toArray];omega) (by omega)) ⟨e,e2,?_⟩
 refine ⟨.non,_,I.lset (its':=its++its2) hH e (by simp) (r.append r2) ?_,rfl,q⟩
 rw [List.length_append]
 omega
def rPop:V→List V→Hp→VK→Prop:=fun x vs H Q=> ∃l xs y,x= .ref l∧vs=[]∧H l=some (.lst xs)∧xs[xs.length - 1]? =some y∧Q y (zj H l (.lst xs.dropLast))
theorem zyl:MtM X "list.pop" rPop:=by
 intro pins s σ H x vs v us Q I rx rv h
 obtain ⟨l,xs,y,rfl,rfl,hH,hy,q⟩:=h
 cases rx
 have hus:=rv.zero
 subst hus
 obtain ⟨z,its,n,r,hl,e⟩:=I.lstM hH
 obtain ⟨u,hu,ru⟩:=r.get hy
 have hy':its.toArray[its.toArray.size - 1]? =some u:=by
  show its.toArray[its.length - 1]? =some u
  rw [←Array.getElem?_toList,←hl]
  exact hu
 refine call_meets F.slot_list_pop ⟨_,e,rfl⟩ F.entry_list_pop (F.args_list_pop_1 _) (MeetsSeq.list_pop_last l its.toArray n u hy' (by rw [List.size_toArray];omega)) ⟨e,?_⟩
 refine ⟨y,_,I.lset (its':=its.dropLast) hH e ?_ r.dropLast ?_,ru,q⟩
 ·show its.toArray.eraseIdxIfInBounds (its.toArray.size - 1)=its.dropLast.toArray
  rw [List.size_toArray,List.eraseIdxIfInBounds_toArray,zm8]
 ·rw [List.length_dropLast]
  omega
def rCat:R2:=fun x y H Q=> ∃l b xs zs,x= .ref l∧y= .ref b∧H l=some (.lst xs)∧H b=some (.lst zs)∧xs.length+zs.length≤sizeLine∧∀p,H p=none→Q (.ref p) (zj H p (.lst (xs++zs)))
theorem zyr:OpR X (binaryOp .Add) rCat:=by
 intro pins s σ H x y v u Q I rx ry h
 obtain ⟨l,b,xs,zs,rfl,rfl,hH,hB,hz,q⟩:=h
 cases rx
 cases ry
 obtain ⟨z,its,n,r,hl,e⟩:=I.lstM hH
 obtain ⟨z2,its2,n2,r2,hl2,e2⟩:=I.lstM hB
 refine PySem.P.add_list e e2 ?_ (by rw [List.size_toArray,List.size_toArray];omega)
 have ea:its.toArray++its2.toArray=(its++its2).toArray:=by simp
 rw [ea]
 exact ⟨.ref _,_,I.lnew (t':=s.toks) (r.append r2) (by rw [List.length_append];omega),rfl,q _ I.fresh⟩
def rRep:R2:=fun x y H Q=> ∃l k xs,x= .ref l∧y= .int k∧H l=some (.lst xs)∧ -(2 ^ 63)≤k∧k < 2 ^ 63∧xs.length*k.toNat≤sizeLine∧
 ∀p,H p=none→Q (.ref p) (zj H p (.lst (List.replicate k.toNat xs).flatten))
theorem zur {α:Type} (xs:List α) (k:Nat):(List.replicate k xs).flatten.length=k*xs.length:=by
 induction k with
 | zero=>simp
 | succ k ih=>rw [List.replicate_succ,List.flatten_cons,List.length_append,ih,Nat.succ_mul,Nat.add_comm]
theorem zws:OpR X (binaryOp .Mult) rRep:=by
 intro pins s σ H x y v u Q I rx ry h
 obtain ⟨l,k,xs,rfl,rfl,hH,h1,h2,hz,q⟩:=h
 cases rx
 obtain ⟨t,rfl⟩:=ry
 obtain ⟨z,its,n,r,hl,e⟩:=I.lstM hH
 have hlen:its.toArray.size*k.toNat≤sizeLine:=by rw [List.size_toArray,←hl];exact hz
 have hcap: ¬its.toArray.size*k.toNat > (2 ^ 63 - 1) / 8:=by
  have:(sizeLine:Nat)≤(2 ^ 63 - 1) / 8:=by decide
  omega
 have hfit: ¬(!Builtin.List.listFitsIndex k)=true:=by
  rw [fitsIndex_both h1 h2]
  exact Bool.false_ne_true
 have hlong: ¬Builtin.List.listTooLong (its.toArray.size*k.toNat)=true:=by
  rw [zmt hlen]
  exact Bool.false_ne_true
 have hnew:List.foldl (fun x1 x2=>x1++x2) #[] (List.replicate (if its.toArray.isEmpty=true then 0 else k.toNat) its.toArray)=(List.replicate k.toNat its).flatten.toArray:=by
  have f0: ∀m:Nat,List.foldl (fun x1 x2=>x1++x2) #[] (List.replicate m its.toArray)=(List.replicate m its).flatten.toArray:=fun m=>by
   have:=zjp its m []
   rw [List.nil_append] at this
   exact this
  rw [f0]
  cases its with
  | nil=>simp
  | cons a r'=>rw [if_neg (by simp)]
 refine wpAny_binaryOp_repeat_ref (T:="list") (U:="int") (by decide) ⟨_,e,rfl⟩ (fun s'=>typeIs_int s' k t) noFill_list_mul F.fills_int_mul F.slot_int_rmul repeat_list F.slot_int_index.lookup
  (call_meets F.slot_int_rmul (typeIs_int s k t) F.entry_int_rmul (F.args_int_rmul_2 _ _) (int___rmul___int_list k t l its.toArray n)
   ⟨e,rfl,⟨_,e,rfl⟩,call_meets F.slot_list_mul ⟨_,e,rfl⟩ F.entry_list_mul (F.args_list_mul_2 _ _) (AutoListH.list___mul___list_int_3 l its.toArray n k t hfit hcap hlong) ⟨e,?_⟩⟩)
 rw [hnew]
 exact ⟨.ref _,_,I.lnew (t':=s.toks) (r.rep k.toNat) (by rw [zur,Nat.mul_comm];exact hz),rfl,q _ I.fresh⟩
end
section
variable {prog:Program} {w:World} {A:Around} {E:Value→Shared→Prop} {s:Shared}
set_option maxRecDepth 100000 in
end
section
variable {X:Cx}
end
end L2
namespace Att
open PySem PySem.W PySem.Calls PyProof.Rows
theorem zf4 {P:Params} {h:Heap}: ∀(ns:List Int) (vs:List Value),WellAll P h vs (ns.map WData.int)→IntsAre vs ns:=by
 intro ns
 induction ns with
 | nil=>
  intro vs w
  rw [List.map_nil] at w
  cases w
  exact .nil
 | cons n ns ih=>
  intro vs w
  rw [List.map_cons] at w
  cases w with
  | cons a b=>
   cases a
   exact .cons _ _ (ih _ b)
theorem zo1 {l:OpenLaw} {n:Nat} (hn:l.most=some n) {P:Params} {h:Heap} {args:List WData} {vals:List Value}
  (hpre:l.row.toRowW.claim.pre args=true) (hwl:WellAll P h vals args):
  ∃a vs ns,vals=[Value.ref a]∧args=[WData.list (ns.map WData.int)]∧h.get? a=some {cls:= .type "list",data:= .seq vs.toArray}∧IntsAre vs ns∧ns.length≤n:=by
 have hsh:WShape.hasAll [] args [.list .int]=true:=(pre_splitW hpre).1
 have hc:l.pre.holds [] {args:=args}=true:=(pre_splitW hpre).2
 obtain ⟨d,r,rfl,h1,h2⟩:=hasAllW_cons hsh
 obtain rfl:=hasAllW_nil h2
 obtain ⟨xs,rfl,h3⟩:=hasW_list h1
 obtain ⟨ns,rfl⟩:=items_int h3
 have hlen:ns.length≤n:=by
  unfold OpenLaw.pre at hc
  have h4:(WTm.not (.lt (.lit (.int (n:Int))) (.len (.arg 0)))).holds [] {args:=[.list (ns.map .int)]}=true:=by
   have h4:=(holds_andW hc).1
   rw [hn] at h4
   exact h4
  have h5:=condW_of h4 (w_not (w_lt w_lit (w_len_list (w_arg rfl))))
  rw [List.length_map] at h5
  refine Nat.le_of_not_lt fun q=>?_
  have q':(n:Int) < ((ns.length:Nat):Int):=by omega
  first
   | (rw [decide_eq_true q'] at h5;exact absurd h5 (by decide))
   | (simp at h5;omega)
 cases hwl with
 | cons w1 w2=>
  cases w2
  cases w1 with
  | list ho hall=>exact ⟨_,_,ns,rfl,rfl,ho,zf4 ns _ hall,hlen⟩
theorem zp8 (l:OpenLaw) (args:List WData):l.row.toRowW.claim.post args (.bool true) args=true:=
 postW_of (r:=l.row.toRowW) (X:=(true==true))
  (show WShape.has [] (.bool true) .bool=true by first | rfl | decide | simp [WShape.has,WShape.arms,WShape.armsAll])
  (show (WTm.eq .res (.lit (.bool true))).value [] {args:=args,res:=some (.bool true),after:=args}=some (.bool (true==true)) from w_eq_bool (w_res rfl) w_lit) rfl
theorem attach_call {l:OpenLaw} {n:Nat} {q:Program} {loose:List Str} {XP:(Str→Option Value)→Heap→Prop} {YP:World→Heap→Prop} {d:DefRec}
  (hn:l.most=some n) (hdf:d.params.defaults=[])
  (call: ∀(w:World) (s₀ s₁:Shared) (mg mb:Str→Option Value) (fa:Addr) (o:Obj) (pm cd doc:Value) (a:Addr) (vs:List Value) (ns:List Int),
   Ground q loose [] XP w s₀ mg mb s₁.heap→YP w s₁.heap→
   s₁.heap.get? fa=some o→o.data= .func (docDef d.name d.params d.body d.scope pm cd doc)→s₁.heap.CodeRec cd d.name→mg d.name=some (.ref fa)→
   s₁.heap.get? a=some {cls:= .type "list",data:= .seq vs.toArray}→IntsAre vs ns→ns.length≤n→s₁.gens= #[]→
   codeAny (model l.prog w) callerA (.call (.ref fa) ⟨[.ref a],[]⟩) (fun r s'=>r= .ok (.ret (.bool true))∧OldK s₁.heap s'.heap∧s'.os=s₁.os∧AllBare s'.gens) s₁):
  WalkO q loose XP YP l.row.toRowW d [] (fun f vs=>PySem.call f vs):=by
 intro w s₀ s₁ mg mb G Y fa o pm cd doc dV kV ho hd hcd hD hmg hg args vals as hpre hlay hrd hwl hlo
 obtain rfl:dV= .none:=Dflts.none hD hdf
 obtain rfl:kV= .none:=Dflts.noKw hD
 obtain ⟨a,vs,ns,rfl,rfl,hobj,hints,hlen⟩:=zo1 hn hpre hwl
 refine enter_call (codeAny_mono (call w s₀ s₁ mg mb fa o pm cd doc a vs ns G Y ho (fd_plain hd) hcd hmg hobj hints hlen hg) fun r s' hq=>?_)
 obtain ⟨rfl,h2,h3,h4⟩:=hq
 exact ⟨.inl ⟨.bool true,.bool true,[],rfl,fun _=>rfl,.bool true,zp8 l _,fun _=>⟨List.Pairwise.nil,fun _ hm=>(nomatch hm)⟩⟩,h2,h3,h4⟩
section
variable {prog:Program} {w:World} {A:Around} {E:Value→Shared→Prop} {s:Shared} {K:Frag}
end
end Att
namespace L2
open PySem PySem.Spec PyProof.Rows
theorem zji: ∀{vs:List Value} {ns:List Int},IntsAre vs ns→Vals (ns.map V.int) vs
 | _,_,.nil=> .nil
 | _,_,.cons n t h=> .cons ⟨t,rfl⟩ (zji h)
def Only (H:Hp):Prop:=∀b,H b=none∨∃o xs,H b=some (.frz o (.lst xs))
theorem zru {P:Program} {w:World} {K:PySem.W.Frag} {mg mb:Str→Option Value} {CX:qQ} {k:Nat} {fa a:Addr} {fd:FuncData} {x:Str} {sp:Sp} {s₁:Shared} {vs:List Value} {ns:List Int}
  (KX:K.In s₁.heap) (hns:s₁.heap.Ns mainGlobals mg) (hb:s₁.heap.Ns builtinsNs mb) (hbb: ∀x:Str,x≠"__name__" →mb x=bootBuiltins x) (hlim:s₁.heap.NoLimit) (hg:s₁.gens= #[])
  (ha:s₁.heap.get? a=some {cls:= .type "list",data:= .seq vs.toArray}) (hi:IntsAre vs ns) (hl:ns.length≤sizeLine) (hr:Room k callerA)
  (F: ∀base:Heap,K.In base→base.Ns mainGlobals mg→FnOk P w K mg base CX k fa fd [x] sp) (hbind: ∀(s:Shared) (u:Value),BindsTo s fd ⟨[u],[]⟩ [(x,u)])
  (hsp: ∀H:Hp,Only H→SqL K H a (ns.map V.int)→sp [.ref a] H (fun v _=>v= .bl true) fun _ _ _=>False)
  (hCX: ∀H e s',CX [] H s₁ (fun _ _ _=>False) e s'→False):
  codeAny (model P w) callerA (.call (.ref fa) ⟨[.ref a],[]⟩) (fun r s'=>r= .ok (.ret (.bool true))∧OldK s₁.heap s'.heap∧s'.os=s₁.os∧AllBare s'.gens) s₁:=by
 have rv:=zji hi
 have lenV:=hi.length
 have core: ∀H:Hp,Only H→SqL K H a (ns.map V.int)→HOk P w H s₁.heap→(∀b,H b≠none→b=a)→(H a≠none→K.lookup a=none)→
   codeAny (model P w) callerA (.call (.ref fa) ⟨[.ref a],[]⟩) (fun r s'=>r= .ok (.ret (.bool true))∧OldK s₁.heap s'.heap∧s'.os=s₁.os∧AllBare s'.gens) s₁:=by
  intro H hO hS hok hA hK
  have base_of: ∀{b:Addr} {o:Obj},s₁.heap.get? b=some o→H b=none→(hidT s₁.heap H).get? b=some o:=fun e n=>zr2 e n
  have noA: ∀{b:Addr} {o:Obj} {es:Array DictEntry} {ep:Nat},s₁.heap.get? b=some o→o.data= .dict es ep→H b=none:=fun {b o es ep} e d=>by
   cases q:H b with
   | none=>rfl
   | some u=>
    have e':b=a:=hA b (by rw [q];simp)
    subst e'
    rw [ha] at e;cases e
    have d':Data.seq vs.toArray _=Data.dict es ep:=d
    cases d'
  have nsK: ∀{b:Addr} {m:Str→Option Value},s₁.heap.Ns b m→(hidT s₁.heap H).Ns b m:=fun {b m} ⟨o,es,ep,e,d,r⟩=>⟨o,es,ep,base_of e (noA e d),d,r⟩
  have hKb:K.In (hidT s₁.heap H):=fun b o e=>base_of (KX b o e) (by
   cases q:H b with
   | none=>rfl
   | some u=>
    have e':b=a:=hA b (by rw [q];simp)
    subst e'
    rw [hK (by rw [q];simp)] at e;cases e)
  have hM:Mod K mg (hidT s₁.heap H):=⟨hKb,nsK hns,⟨mb,nsK hb,hbb⟩,let ⟨mc,h1,h2⟩:=hlim;⟨mc,nsK h1,h2⟩⟩
  have e0:Env0 P w K mg (hidT s₁.heap H) callerA [] s₁ H:=⟨rfl,hM,fun b o e=>zvu e,Nat.le_of_eq (zor _ _),trivial,fun b hb=>absurd (show b∈([]:List Addr) from hb) (by simp),hok,.of_eq hg⟩
  refine codeAny_mono ((F _ hKb (nsK hns)).run callerA [] s₁ H ⟨[.ref a],[]⟩ [.ref a] [.ref a] _ _ hr e0 (hbind s₁ (.ref a)) (.cons rfl .nil) (hsp H hO hS)) fun r s' h=>?_
  cases r with
  | error e=>exact (hCX H e s' h).elim
  | ok fl=>
   cases fl with
   | next=>exact False.elim h
   | brk=>exact False.elim h
   | cont=>exact False.elim h
   | ret u=>
    obtain ⟨v,H',os,bare,un,hok',r',q⟩:=h
    have q':v= .bl true:=q
    subst q'
    obtain rfl:u=Value.bool true:=r'
    refine ⟨rfl,OldK.of_keep fun b o e=>?_,os,bare⟩
    cases q:H b with
    | none=>exact un.keep b o e q (by intro z;exact absurd (show b∈([]:List Addr) from z) (by simp)) (by simp)
    | some u=>
     rcases hO b with z | ⟨ob,xs,z⟩
     ·rw [q] at z;cases z
     ·have z2:=un.frzs b ob _ z
      obtain ⟨e1,_⟩:=hok b _ z
      obtain ⟨e2,_⟩:=hok' b _ z2
      rw [e] at e1;cases e1
      exact e2
 cases hk:K.lookup a with
 | some o=>
  have e:=KX a o hk
  rw [ha] at e
  cases e
  refine core (fun _=>none) (fun _=> .inl rfl) (.inr ⟨_,vs.toArray,_,hk,rfl,rfl,rfl,by rw [List.size_toArray,lenV];exact hl,by simpa using rv⟩) (fun b u z=>by have z':(none:Option HO)=some u:=z;cases z') (fun b z=>absurd rfl z) fun z=>absurd rfl z
 | none=>
  refine core (fun b=>if b=a then some (.frz {cls:= .type "list",data:= .seq vs.toArray} (.lst (ns.map V.int))) else none) (fun b=>?_) (.inl (.inr ⟨{cls:= .type "list",data:= .seq vs.toArray},if_pos rfl⟩)) (fun b u z=>?_) (fun b z=>?_) fun _=>hk
  ·by_cases hb:b=a
   ·exact .inr ⟨_,_,if_pos hb⟩
   ·exact .inl (if_neg hb)
  ·by_cases hb:b=a
   ·have z':=(if_pos hb).symm.trans z
    cases z'
    subst hb
    exact ⟨ha,by rw [List.length_map];exact hl,vs,_,rv,ha⟩
   ·have z':=(if_neg hb).symm.trans z
    cases z'
  ·by_cases hb:b=a
   ·exact hb
   ·exact absurd (if_neg hb) z
noncomputable def zij (s:Stmt) (j:Nat):Stmt:=match s with
 | .ClassDef _ _ _ body _ _ _ _ _ _ _=>body.getD j (.Pass ⟨0,0,0,0⟩)
 | _=> .Pass ⟨0,0,0,0⟩
noncomputable def zgo (s:Stmt):Arguments:=match s with
 | .FunctionDef _ a _ _ _ _ _ _ _ _=>a
 | _=>{posonlyargs:=[],args:=[],vararg:=none,kwonlyargs:=[],kw_defaults:=[],kwarg:=none,defaults:=[]}
noncomputable def zeo (s:Stmt):List Stmt:=match s with
 | .FunctionDef _ _ b _ _ _ _ _ _ _=>b
 | _=>[]
noncomputable def zT (s:Stmt):Scope:=match s with
 | .FunctionDef _ _ _ _ _ _ sc _ _ _=>sc
 | _=>{kind:= .function,names:=[],isGenerator:=false,isCoroutine:=false}
abbrev E0:XK:=fun _ _ _=>False
structure Fun (K:PySem.W.Frag) (x qual:Str) (st:Stmt) (f:Addr) (fd:FuncData):Prop where
 ex: ∃(oc:Value) (od:Option Addr) (kV doc pm:Value) (an:Option Addr) (cdv ct:Value) (osl:Array (Option Value)),
  fd=PySem.W.fnOf x qual (zgo st) (zeo st) (zT st) .none kV doc pm an cdv ct∧K.lookup f=some ⟨oc,od,.func fd,osl⟩∧PySem.W.codeIn K cdv qual=true
 kp:PySem.W.keepIn K (.ref f)=true
section
variable {P:Program} {w:World} {K:PySem.W.Frag} {mg:Str→Option Value} {base:Heap}
theorem Fun.binds {x qual:Str} {st:Stmt} {f:Addr} {fd:FuncData} {ps:List Str} (F:Fun K x qual st f fd)
  (h: ∀(kV doc pm:Value) (an:Option Addr) (cdv ct:Value) (us:List Value),us.length=ps.length→bindArgs (PySem.W.fnOf x qual (zgo st) (zeo st) (zT st) .none kV doc pm an cdv ct) ⟨us,[]⟩=pure (ps.zip us)):Binds K fd ps []:=by
 obtain ⟨oc,od,kV,doc,pm,an,cdv,ct,osl,rfl,lk,hcd⟩:=F.ex
 exact .all (h kV doc pm an cdv ct)
end
section
variable {X:Cx}
theorem pv (i:Nat) {x:Str} {pos:Pos} (hN:X.N[i]? =some x:=by rfl) (hv:Vis X.env.scope x:=by first | exact Or.inl rfl | exact Or.inr (Or.inl rfl) | exact Or.inr (Or.inr rfl)) (hd:(x==("__debug__" :Str))=false:=by decide)
 (hcd:(x==("__classdict__" :Str))=false:=by decide):PE X (.Name x pos) (tVar i):=zyq hN hv hd hcd
end
end L2
set_option maxHeartbeats 0
namespace L4
open PySem PySem.W PyProof.Rows L2
noncomputable def zh7 (tb:String→Option Builtin) (p:Program) (w:World) (m:Nat) (ann:Option Value):Nat→SharedT→Thread→Option SharedT
 | 0,_,_=>none
 | n+1,s,t=>match through t with
  | true=>some s
  | false=>match stepOk m ann t with
   | false=>none
   | true=>match stepT (denote tb) p w s t with
    | some (s',t')=>zh7 tb p w m ann n s' t'
    | none=>none
theorem zhr {tb:String→Option Builtin} {p:Program} {w:World} {m:Nat} {ann:Option Value}: ∀{n:Nat} {s s':SharedT} {t:Thread},zh7 tb p w m ann n s t=some s'→topRun tb p w m ann n s.abs t=some s'.abs
 | 0,_,_,_,h=>by cases h
 | n+1,s,s',t,h=>by
  unfold zh7 at h
  unfold topRun
  cases he:through t with
  | true=>rw [he] at h;cases h;rfl
  | false=>
   rw [he] at h
   cases hk:stepOk m ann t with
   | false=>rw [hk] at h;cases h
   | true=>
    rw [hk] at h
    cases hs:stepT (denote tb) p w s t with
    | none=>rw [hs] at h;cases h
    | some r=>
     obtain ⟨s2,t2⟩:=r
     rw [hs] at h
     rw [stepT_spec hs]
     exact zhr h
def zwe:List Obj→Nat→BT→BT
 | [],_,t=>t
 | o::r,n,t=>zwe r (n+1) (t.ins n o)
def boot (P:Params) (os:OsState):SharedT:=⟨zwe (boot_heap P).objs.toList 0 .nil,11,(boot_heap P).life,Array.mk [],boot_drawn,boot_toks,os⟩
theorem zrc (P:Params) (os:OsState):(boot P os).abs=⟨boot_heap P,Array.mk [],boot_drawn,boot_toks,os⟩:=by kernel_rfl
theorem zp4 (P:Params):((boot_heap P).isNs mainGlobals,(boot_heap P).objs.size,(boot_heap P).nsMap mainGlobals "__annotations__")=(true,11,some (.ref 6)):=by kernel_rfl
section
variable (p q:Program) (loose:List Str) {β:Type} (obs:Heap→β)
def zxa (P:Params) (s:Shared):=
 ((staticsOk (importedModules p.main.body) (boot_heap P) s.heap && namesBound p s.heap && gensDone s && laidKept (boot_heap P) s.heap),openSeen q loose (importedModules p.main.body) (fun _=>true) true s,obs s.heap)
def zst (N:Nat) (w:World) (os:OsState):=(zh7 treeTable p w 11 (some (.ref 6)) N (boot w.params os) (topStub p)).map fun s=>zxa p q loose obs w.params s.abs
end
theorem left_one {p q:Program} {loose:List Str} {β:Type} {obs:Heap→β} {good:β} {N:Nat} (e:opening p=plainProg p.main.scope.names) (hN:Nat.ble 600 N=true) (f: ∀s,fenceModules? p s=some s)
  (h: ∀w os,zst p q loose obs N w os=some (true,openGood q loose,good)):LeftO p q loose (fun _=>true) (fun s=>obs s.heap) (fun _=>good) N:=fun w=>by
 obtain ⟨⟨h0,gs,d,k,os⟩,e1,e2⟩:=Option.map_eq_some_iff.mp (boot_open e hN f w)
 obtain ⟨rfl,rfl,rfl,rfl⟩:h0=boot_heap w.params∧gs=Array.mk []∧d=boot_drawn∧k=boot_toks:=by simpa using e2
 obtain ⟨s1,r1,r2⟩:=Option.map_eq_some_iff.mp (h w os)
 have r3:=zhr r1
 rw [zrc] at r3
 obtain ⟨z1,z2,z3⟩:_∧_∧_:=by simpa only [Prod.mk.injEq] using zp4 w.params
 obtain ⟨l1,l2,l3⟩:_∧_∧_:=by simpa only [zxa,Prod.mk.injEq] using r2
 have t:topFrom treeTable p w N ⟨boot_heap w.params,Array.mk [],boot_drawn,boot_toks,os⟩=some s1.abs:=by
  unfold topFrom
  dsimp only
  rw [z1,z2,z3,r3]
  show (match staticsOk (importedModules p.main.body) (boot_heap w.params) s1.abs.heap && namesBound p s1.abs.heap && gensDone s1.abs && laidKept (boot_heap w.params) s1.abs.heap with | true=>_ | false=>_)=_
  rw [l1]
 unfold openEnds
 rw [e1]
 show (topFrom treeTable p w N _).map _=_
 rw [t]
 exact congrArg some (Prod.ext l2 l3)
def frag (as:List Addr) (h:Heap):Frag:=as.filterMap fun a=>(h.get? a).map fun o=>(a,o)
theorem ztq {as:List Addr} {h:Heap}:(frag as h).In h:=by
 intro a o e
 induction as with
 | nil=>cases e
 | cons b r ih=>
  unfold frag at e
  rw [List.filterMap_cons] at e
  cases hb:h.get? b with
  | none=>rw [hb] at e;exact ih e
  | some ob=>
   rw [hb] at e
   simp only [Option.map_some,List.lookup] at e
   split at e
   ·rename_i q;cases e;rw [beq_iff_eq.mp q];exact hb
   ·exact ih e
noncomputable def isNone:Value→Bool
 | .none=>true
 | _=>false
theorem zmv {v:Value} (h:isNone v=true):v= .none:=by cases v <;> first | rfl | cases h
def zls (K:Frag) (qual:Str):Option (Option Value)→Option (Str×Str×Arguments×FuncBody×Scope×Bool)
 | some (some (.ref f))=>match K.lookup f with
  | some ⟨_,_,.func fd,_⟩=>some (fd.name,fd.qualname,fd.params,fd.body,fd.scope,(Nat.beq fd.globals mainGlobals && fd.closure.isEmpty && isNone fd.defaults && Nat.beq fd.builtins builtinsNs && codeIn K fd.code qual && isFn K (.ref f)))
  | _=>none
 | _=>none
def zlv (x qual:Str) (st:Stmt):Option (Str×Str×Arguments×FuncBody×Scope×Bool):=some (x,qual,zgo st,.stmts (zeo st),zT st,true)
theorem zs0 {K:Frag} {x qual:Str} {st:Stmt} {v:Option (Option Value)} (e:zls K qual v=zlv x qual st):
  ∃f fd,v=some (some (.ref f))∧Fun K x qual st f fd∧isFn K (.ref f)=true:=by
 unfold zls at e
 split at e
 ·rename_i f
  split at e
  ·rename_i oc od fd sl hl
   unfold zlv at e
   simp only [Option.some.injEq,Prod.mk.injEq,Bool.and_eq_true] at e
   obtain ⟨e1,e2,e3,e4,e5,⟨⟨⟨⟨h1,h2⟩,h3⟩,h4⟩,h5⟩,h6⟩:=e
   refine ⟨f,fd,rfl,⟨⟨oc,od,fd.kwdefaults,fd.doc,fd.pyModule,fd.annotations,fd.code,fd.closureTuple,sl,?_,hl,h5⟩,?_⟩,h6⟩
   ·obtain ⟨a1,a2,a3,a4,a5,a6,a7,a8,a9,a10,a11,a12,a13,a14,a15⟩:=fd
    simp only at e1 e2 e3 e4 e5 h1 h2 h3 h4
    have h1:=Nat.eq_of_beq_eq_true h1
    have h2:=List.isEmpty_iff.mp h2
    have h3:=zmv h3
    have h4:=Nat.eq_of_beq_eq_true h4
    subst e1 e2 e3 e4 e5 h1 h2 h3 h4
    rfl
   ·unfold keepIn
    simp only [hl]
  ·cases e
 ·cases e
inductive KV where
 | int (i:Int)
 | str (s:Str)
noncomputable def zop:Option (Option Value)→Option KV
 | some (some (.int i _))=>some (.int i)
 | some (some (.str s _))=>some (.str s)
 | _=>none
theorem zyw {v:Option (Option Value)} {i:Int} (e:zop v=some (.int i)): ∃t,v=some (some (.int i t)):=by
 unfold zop at e
 split at e
 ·simp only [Option.some.injEq,KV.int.injEq] at e;subst e;exact ⟨_,rfl⟩
 ·simp at e
 ·cases e
def zml:Option (Option Value)→Bool
 | some none=>true
 | _=>false
theorem zxm {v:Option (Option Value)} (e:zml v=true):v=some none:=by
 unfold zml at e
 split at e
 ·rfl
 ·cases e
noncomputable def zn5 (p:Program) (i:Nat):Stmt:=p.main.body.getD i (.Pass ⟨0,0,0,0⟩)
structure Ask where
 law:Nat
 at_:List Addr
 defs:List (Str×Nat)
 cls:List (Str×Nat×List (Str×Str×Nat)×List Str)
 bare:List Str
 con:List (Str×KV)
noncomputable def zmh (K:Frag) (C:Addr):Bool:=
 plainGet K C Str.empty && hasDictIn K C && plainOver K C && (findIn K (.ref C) "__setattr__" ==some (some (.builtin "object.__setattr__"))) && makesIn K C && keepIn K (.ref C)
def zpj (K:Frag) (c:Str×Nat×List (Str×Str×Nat)×List Str):Option Value→Option (List (Option (Str×Str×Arguments×FuncBody×Scope×Bool))×Bool×List Bool)
 | some (.ref C)=>some (c.2.2.1.map (fun m=>zls K m.2.1 (findIn K (.ref C) m.1)),zmh K C,c.2.2.2.map fun a=>zml (findIn K (.ref C) a))
 | _=>none
def seenK (A:Ask) (K:Frag):=
 (A.defs.map (fun d=>zls K d.1 (nsIn K mainGlobals d.1)),A.cls.map (fun c=>zpj K c (nsIn K mainGlobals c.1).join),A.bare.map (fun b=>zml (nsIn K mainGlobals b)),A.con.map fun c=>zop (nsIn K mainGlobals c.1))
def seen (A:Ask) (h:Heap):=seenK A (frag A.at_ h)
def good (p:Program) (A:Ask):=
 (A.defs.map (fun d=>zlv d.1 d.1 (zn5 p d.2)),
  A.cls.map (fun c=>some (c.2.2.1.map (fun m=>zlv m.1 m.2.1 (zij (zn5 p c.2.1) m.2.2)),true,c.2.2.2.map fun _=>true)),
  A.bare.map (fun _=>true),A.con.map fun c=>some c.2)
def lawView (A:Ask) (p:Program):Program:={p with main:={p.main with body:=[zn5 p A.law]}}
def looseOf (p:Program):List Str:=(p.main.scope.names.map (·.1)).filter fun x=> !(x=="law")
def claim (A:Ask) (N:Nat) (p:Program) (w:World) (os:OsState):=zst p (lawView A p) (looseOf p) (seen A) N w os
def goal (A:Ask) (p:Program):=some (true,openGood (lawView A p) (looseOf p),good p A)
section
variable {p:Program} {A:Ask} {K:Frag}
theorem zhn {α β:Type} {f g:α→β} {l:List α} {i:Nat} {a:α} (e:l.map f=l.map g) (h:l[i]? =some a):f a=g a:=by
 have:=congrArg (fun z=>z[i]?) e
 simp only [List.getElem?_map,h,Option.map_some,Option.some.injEq] at this
 exact this
theorem def_at (S:seenK A K=good p A) (i:Nat) {d:Str×Nat} (h:A.defs[i]? =some d): ∃f fd,nsIn K mainGlobals d.1=some (some (.ref f))∧Fun K d.1 d.1 (zn5 p d.2) f fd:=by
 obtain ⟨f,fd,e,F,_⟩:=zs0 (zhn (congrArg (fun z=>z.1) S) h)
 exact ⟨f,fd,e,F⟩
theorem bare_at (S:seenK A K=good p A) (i:Nat) {b:Str} (h:A.bare[i]? =some b):nsIn K mainGlobals b=some none:=zxm (zhn (congrArg (fun z=>z.2.2.1) S) h)
theorem int_at (S:seenK A K=good p A) (i:Nat) {x:Str} {n:Int} (h:A.con[i]? =some (x,.int n)): ∃t,nsIn K mainGlobals x=some (some (.int n t)):=zyw (zhn (congrArg (fun z=>z.2.2.2) S) h)
structure ClsAt (p:Program) (K:Frag) (c:Str×Nat×List (Str×Str×Nat)×List Str) (C:Addr):Prop where
 g:nsIn K mainGlobals c.1=some (some (.ref C))
 cls:Cls K C
 makes:makesIn K C=true
 kp:keepIn K (.ref C)=true
 meth: ∀(j:Nat) (m:Str×Str×Nat),c.2.2.1[j]? =some m→∃f fd,findIn K (.ref C) m.1=some (some (.ref f))∧Fun K m.1 m.2.1 (zij (zn5 p c.2.1) m.2.2) f fd∧isFn K (.ref f)=true
 fld: ∀(j:Nat) (a:Str),c.2.2.2[j]? =some a→NoAttr K C a
theorem zq8 {v:Option (Option Value)} {x:Value} (h:v.join=some x):v=some (some x):=by
 cases v with
 | none=>cases h
 | some v=>cases h;rfl
theorem cls_at (S:seenK A K=good p A) (i:Nat) {c:Str×Nat×List (Str×Str×Nat)×List Str} (h:A.cls[i]? =some c): ∃C,ClsAt p K c C:=by
 have e:=zhn (congrArg (fun z=>z.2.1) S) h
 unfold zpj at e
 split at e
 ·rename_i C hC
  simp only [Option.some.injEq,Prod.mk.injEq] at e
  obtain ⟨e1,e2,e3⟩:=e
  unfold zmh at e2
  simp only [Bool.and_eq_true] at e2
  obtain ⟨⟨⟨⟨⟨h1,h2⟩,h3⟩,h4⟩,h5⟩,h6⟩:=e2
  refine ⟨C,zq8 hC,⟨h1,h2,h3,?_⟩,h5,h6,fun j m hm=>?_,fun j a ha=>?_⟩
  ·exact beq_iff_eq.mp h4
  ·exact zs0 (zhn e1 hm)
  ·exact zxm (zhn e3 ha)
 ·cases e
end
section
variable {K:Frag} {x qual:Str} {st:Stmt} {f:Addr} {fd:FuncData} {p1 p2 p3 p4 p5 p6 p7 p8:Str}
abbrev Bd (x qual:Str) (st:Stmt) (us:List Value) (r:List (Str×Value)):Prop:=∀(kV doc pm:Value) (an:Option Addr) (cdv ct:Value),bindArgs (fnOf x qual (zgo st) (zeo st) (zT st) .none kV doc pm an cdv ct) ⟨us,[]⟩=pure r
theorem qo {us:List Value} {n:Nat} (h:us.length=n+1): ∃a r,us=a::r∧r.length=n:=by
 cases us with
 | nil=>cases h
 | cons a r=>exact ⟨a,r,rfl,by simpa using h⟩
theorem b1 (F:Fun K x qual st f fd) (h: ∀a,Bd x qual st [a] [(p1,a)]):Binds K fd [p1] []:=F.binds fun _ _ _ _ _ _ us h0=>by
 obtain ⟨a,u1,rfl,h1⟩:=qo h0
 obtain rfl:u1=[]:=List.eq_nil_of_length_eq_zero h1
 exact h _ _ _ _ _ _ _
theorem b2 (F:Fun K x qual st f fd) (h: ∀a b,Bd x qual st [a,b] [(p1,a),(p2,b)]):Binds K fd [p1,p2] []:=F.binds fun _ _ _ _ _ _ us h0=>by
 obtain ⟨a,u1,rfl,h1⟩:=qo h0
 obtain ⟨b,u2,rfl,h2⟩:=qo h1
 obtain rfl:u2=[]:=List.eq_nil_of_length_eq_zero h2
 exact h _ _ _ _ _ _ _ _
theorem b3 (F:Fun K x qual st f fd) (h: ∀a b c,Bd x qual st [a,b,c] [(p1,a),(p2,b),(p3,c)]):Binds K fd [p1,p2,p3] []:=F.binds fun _ _ _ _ _ _ us h0=>by
 obtain ⟨a,u1,rfl,h1⟩:=qo h0
 obtain ⟨b,u2,rfl,h2⟩:=qo h1
 obtain ⟨c,u3,rfl,h3⟩:=qo h2
 obtain rfl:u3=[]:=List.eq_nil_of_length_eq_zero h3
 exact h _ _ _ _ _ _ _ _ _
theorem b4 (F:Fun K x qual st f fd) (h: ∀a b c d,Bd x qual st [a,b,c,d] [(p1,a),(p2,b),(p3,c),(p4,d)]):Binds K fd [p1,p2,p3,p4] []:=F.binds fun _ _ _ _ _ _ us h0=>by
 obtain ⟨a,u1,rfl,h1⟩:=qo h0
 obtain ⟨b,u2,rfl,h2⟩:=qo h1
 obtain ⟨c,u3,rfl,h3⟩:=qo h2
 obtain ⟨d,u4,rfl,h4⟩:=qo h3
 obtain rfl:u4=[]:=List.eq_nil_of_length_eq_zero h4
 exact h _ _ _ _ _ _ _ _ _ _
theorem b6 (F:Fun K x qual st f fd) (h: ∀a b c d e g,Bd x qual st [a,b,c,d,e,g] [(p1,a),(p2,b),(p3,c),(p4,d),(p5,e),(p6,g)]):Binds K fd [p1,p2,p3,p4,p5,p6] []:=F.binds fun _ _ _ _ _ _ us h0=>by
 obtain ⟨a,u1,rfl,h1⟩:=qo h0
 obtain ⟨b,u2,rfl,h2⟩:=qo h1
 obtain ⟨c,u3,rfl,h3⟩:=qo h2
 obtain ⟨d,u4,rfl,h4⟩:=qo h3
 obtain ⟨e,u5,rfl,h5⟩:=qo h4
 obtain ⟨g,u6,rfl,h6⟩:=qo h5
 obtain rfl:u6=[]:=List.eq_nil_of_length_eq_zero h6
 exact h _ _ _ _ _ _ _ _ _ _ _ _
theorem binds_law (F:Fun K x qual st f fd) (h: ∀a,Bd x qual st [a] [(p1,a)]) (s:Shared) (u:Value):BindsTo s fd ⟨[u],[]⟩ [(p1,u)]:=by
 obtain ⟨oc,od,kV,doc,pm,an,cdv,ct,osl,rfl,lk,hcd⟩:=F.ex
 exact .of_eq (h u _ _ _ _ _ _)
end
theorem walk_one {l:OpenLaw} {n k:Nat} {q:Program} {loose:List Str} {XP:(Str→Option Value)→Heap→Prop} {A:Ask} {d:DefRec} {CX:World→qQ} {sp:Frag→Sp} {x:Str}
  (hn:l.most=some n) (hn2:n≤sizeLine) (hdf:d.params.defaults=[]) (hr:Room k callerA)
  (F: ∀(w:World) (mg:Str→Option Value) (fa:Addr) (h:Heap) (K:Frag),K.In h→h.Ns mainGlobals mg→seenK A K=good l.prog A→mg d.name=some (.ref fa)→
   ∃fd:FuncData,(∀(s:Shared) (u:Value),BindsTo s fd ⟨[u],[]⟩ [(x,u)])∧∀base:Heap,K.In base→base.Ns mainGlobals mg→FnOk l.prog w K mg base (CX w) k fa fd [x] (sp K))
  (hsp: ∀(K:Frag) (H:Hp) (a:Addr) (ns:List Int),ns.length≤n→Only H→SqL K H a (ns.map V.int)→sp K [.ref a] H (fun v _=>v= .bl true) fun _ _ _=>False)
  (hCX: ∀(w:World) (H:Hp) (s:Shared) (e:Value) (s':Shared),CX w [] H s (fun _ _ _=>False) e s'→False):
  WalkO q loose XP (fun _ h=> ∃K:Frag,K.In h∧seenK A K=good l.prog A) l.row.toRowW d [] (fun f vs=>PySem.call f vs):=by
 refine Att.attach_call hn hdf fun w s0 s1 mg mb fa o pm cd doc a vs ns G Y ho hd hcd hmg hobj hints hlen hg=>?_
 obtain ⟨K,KX,S⟩:=Y
 obtain ⟨fd,hb,hF⟩:=F w mg fa _ K KX G.T.g S hmg
 exact zru KX G.T.g G.T.b G.T.builtins G.T.nolimit hg hobj hints (Nat.le_trans hlen hn2) hr hF hb (fun H hO hS=>hsp K H a ns hlen hO hS) fun H e s'=>hCX w H s1 e s'
theorem seen_ok {A:Ask} {p:Program} (w:World) (s:Shared) (e:seen A s.heap=good p A): ∃K:Frag,K.In s.heap∧seenK A K=good p A:=⟨_,ztq,e⟩
theorem seen_keeps {A:Ask} {p:Program} (w:World) (h h':Heap) (y: ∃K:Frag,K.In h∧seenK A K=good p A) (k: ∀b o,h.get? b=some o→h'.get? b=some o): ∃K:Frag,K.In h'∧seenK A K=good p A:=
 let ⟨K,a,b⟩:=y
 ⟨K,a.keeps k,b⟩
end L4
namespace L2
open PySem PySem.Spec PyProof.Rows
noncomputable def yU (X:Cx) (N:List Str) (scope:Scope) (cl:List (Str×Addr)) (C:Addr) (s:Shared) (H:Hp) (ex:List Addr):Cx where
 prog:=X.prog
 w:=X.w
 K:=X.K
 mg:=X.mg
 base:=X.base
 A:=X.A
 N:=N
 s₀:=s
 H₀:=H
 env:=compEnvC scope cl C X.env
 outer:=X.stack
 stack:=X.stack
 ex:=ex
 fn:=fun _=>false
 calm:=X.calm
 pn:=[]
 xe:=fun _ _=>False
theorem zfe {env:Env}: ∀(names:List (Str×NameKind)) (acc:List (Str×Addr)),(∀y∈names,y.2= .free→∃c,env.cells.lookup y.1=some c)→
  ∃cl,(forIn names acc (fun x cs=>match x with | (name,kind)=>if (kind==NameKind.free)=true then (do let a ←cellOf env name;pure (ForInStep.yield ((name,a)::cs))) else pure (ForInStep.yield cs)):Sem (List (Str×Addr)))=pure cl∧
   (∀p∈cl,p∈acc∨env.cells.lookup p.1=some p.2)∧(∀y∈names,y.2= .free→∃c,(y.1,c)∈cl)∧∀p∈acc,p∈cl
 | [],acc,_=>⟨acc,by rw [List.forIn_nil],fun p hp=> .inl hp,fun _ h=>(nomatch h),fun _ h=>h⟩
 | (n,k)::r,acc,h=>by
  rw [List.forIn_cons]
  by_cases hk:k= .free
  ·subst hk
   obtain ⟨c,hc⟩:=h (n,.free) List.mem_cons_self rfl
   obtain ⟨cl,e,h1,h2,h3⟩:=zfe r ((n,c)::acc) fun y hy=>h y (List.mem_cons_of_mem _ hy)
   have ec:cellOf env n=pure c:=by unfold cellOf;rw [hc]
   refine ⟨cl,?_,fun p hp=>?_,fun y hy hf=>?_,fun p hp=>h3 p (List.mem_cons_of_mem _ hp)⟩
   ·simp only [beq_self_eq_true,if_true,ec,pure_bind]
    exact e
   ·rcases h1 p hp with q | q
    ·rcases List.mem_cons.mp q with rfl | q
     ·exact .inr hc
     ·exact .inl q
    ·exact .inr q
   ·rcases List.mem_cons.mp hy with rfl | hy
    ·exact ⟨c,h3 _ List.mem_cons_self⟩
    ·exact h2 y hy hf
  ·obtain ⟨cl,e,h1,h2,h3⟩:=zfe r acc fun y hy=>h y (List.mem_cons_of_mem _ hy)
   have hb:(k==NameKind.free)=false:=by simpa using hk
   refine ⟨cl,?_,h1,fun y hy hf=>?_,h3⟩
   ·simp only [hb,Bool.false_eq_true,if_false,pure_bind]
    exact e
   ·rcases List.mem_cons.mp hy with rfl | hy
    ·exact absurd hf hk
    ·exact h2 y hy hf
theorem zd3 {α:Type}: ∀{l:List (Str×α)} {x:Str} {c:α},(x,c)∈l→∃d,l.lookup x=some d
 | (y,e)::r,x,c,h=>by
  rw [List.lookup_cons]
  cases hb:x==y with
  | true=>exact ⟨e,rfl⟩
  | false=>
   rcases List.mem_cons.mp h with q | q
   ·cases q;simp at hb
   ·exact zd3 q
theorem zey {scope:Scope} {env:Env} (h: ∀y∈scope.names,y.2= .free→∃c,env.cells.lookup y.1=some c):
  ∃cl,closureFor scope env=pure cl∧(∀x c,cl.lookup x=some c→env.cells.lookup x=some c)∧∀y∈scope.names,y.2= .free→∃c,cl.lookup y.1=some c:=by
 obtain ⟨cl,e,h1,h2,_⟩:=zfe (env:=env) scope.names [] h
 refine ⟨cl,?_,fun x c q=>?_,fun y hy hf=>?_⟩
 ·simp only [closureFor]
  rw [e]
  rfl
 ·rcases h1 _ (PySem.mem_of_lookup q) with z | z
  ·cases z
  ·exact z
 ·obtain ⟨c,hc⟩:=h2 y hy hf
  exact zd3 hc
section
variable {prog:Program} {w:World} {A:Around} {R:Result→Shared→Prop} {s:Shared}
theorem zoh {elt target iter:Expr} {ifs:List Expr} {scope:Scope} {pos:Pos} {it acc:Value} {env:Env} (I:Nat→Shared→Prop)
  (turn: ∀n s,I n s→wpAny (model prog w) A (pyNext it) (fun r s₁=>match r with
   | none=>R (.ok .next) s₁
   | some v=>wpAny (model prog w) A (letOwnedTupleGo target it v) (fun _ s₁'=>wpAny (model prog w) A (assign target env v) (fun _ s₂=>
    wpAny (model prog w) A (forIn ifs true fun c r=>if r=true then do let ok ←isTrue c env (eval c env);pure (ForInStep.yield ok) else pure (ForInStep.yield r)) (fun ok s₃=>
     if ok=true then wpAny (model prog w) A (eval elt env) (fun x s₄=>
      wpAny (model prog w) A (call (.builtin "list.append") [acc,x]) (fun _ s₅=> ∃m,m < n∧I m s₅) (fun _ _=>False) s₄) (fun _ _=>False) s₃
     else ∃m,m < n∧I m s₃) (fun _ _=>False) s₂) (fun _ _=>False) s₁') (fun _ _=>False) s₁) (fun _ _=>False) s)
  (n:Nat) (h:I n s):codeAny (model prog w) A (.compLoop (.ListComp elt [⟨target,iter,ifs,0⟩] scope pos) 0 it acc env) R s:=by
 refine codeAny_loop rfl I (fun n s hI=>?_) n h
 show wpAny _ A ((compTurn (.ListComp elt [⟨target,iter,ifs,0⟩] scope pos) 0 it acc env).onRaise (fun x=>do noteFrame x env;theTreesLotGoes x)) _ _ s
 refine wpAny_noted ?_
 rw [compTurn_list]
 refine wpAny_bind (wpAny_standAt (wpAny_bind (wpAny_mono (turn n s hI) (fun r s₁ h₁=>?_) fun _ _ f=>f.elim)))
 cases r with
 | none=>exact wpAny_pure h₁
 | some v=>
  refine wpAny_bind (wpAny_mono h₁ (fun _ s₁' h₁'=>?_) fun _ _ f=>f.elim)
  refine wpAny_bind (wpAny_mono h₁' (fun _ s₂ h₂=>wpAny_bind (wpAny_mono h₂ (fun ok s₃ h₃=>?_) fun _ _ f=>f.elim)) fun _ _ f=>f.elim)
  cases ok with
  | false=>exact wpAny_pure ⟨rfl,h₃⟩
  | true=>
   exact wpAny_bind (wpAny_bind (wpAny_mono h₃ (fun x s₄ h₄=>wpAny_bind (wpAny_mono h₄ (fun _ s₅ h₅=>wpAny_pure (wpAny_pure ⟨rfl,h₅⟩)) fun _ _ f=>f.elim)) fun _ _ f=>f.elim))
end
def cst (k:Nat) (fr:List Nat) (σ:St):St:=List.replicate k none++fr.map fun j=>(σ[j]?).join
structure CompScope (X:Cx) (loc free:List Str) (fr:List Nat) (scope:Scope):Prop where
 kind:scope.kind= .function
 cell: ∀y∈scope.names,y.2≠ .cell
 names: ∀y∈scope.names,y.2= .local→scope.names.lookup y.1=some .local
 frees: ∀y∈scope.names,y.2= .free→X.env.kindOf y.1=some .cell∨X.env.kindOf y.1=some .free
 at_: ∀(i j:Nat) (x:Str),fr[i]? =some j→free[i]? =some x→X.N[j]? =some x∧scope.names.lookup x=some .free
 len:fr.length=free.length
theorem zcp {env:Env}: ∀{names:List (Str×NameKind)} {x:Str},(∀y∈names,y.2≠ .cell)→
    ((names.map fun (n,k)=>if (k==NameKind.free && env.scope.kind== .function && env.kindOf n==some .cell) then (n,NameKind.cell) else (n,k)).lookup x=some .cell∨
     (names.map fun (n,k)=>if (k==NameKind.free && env.scope.kind== .function && env.kindOf n==some .cell) then (n,NameKind.cell) else (n,k)).lookup x=some .free)→names.lookup x=some .free
  | [],_,_,h=>by simp at h
  | (n,k)::r,x,hc,h=>by
    have ih:= @zcp env r x fun y hy=>hc y (List.mem_cons_of_mem _ hy)
    rw [List.map_cons] at h
    rw [List.lookup_cons]
    cases hx:x==n with
    | true=>
      have hk:k≠ .cell:=hc (n,k) List.mem_cons_self
      dsimp only at h ⊢
      by_cases hb:(k==NameKind.free && env.scope.kind== .function && env.kindOf n==some .cell)=true
      · have:k= .free:=by
          rw [Bool.and_eq_true,Bool.and_eq_true] at hb
          simpa using hb.1.1
        rw [this]
      · rw [if_neg hb,List.lookup_cons,hx] at h
        rcases h with h | h
        · have:k= .cell:=Option.some.inj h
          exact absurd this hk
        · exact h
    | false=>
      dsimp only at h ⊢
      refine ih ?_
      by_cases hb:(k==NameKind.free && env.scope.kind== .function && env.kindOf n==some .cell)=true
      · rw [if_pos hb,List.lookup_cons,hx] at h;exact h
      · rw [if_neg hb,List.lookup_cons,hx] at h;exact h
theorem zct {env:Env}: ∀{names:List (Str×NameKind)} {x:Str},names.lookup x=some .free→
    ((names.map fun (n,k)=>if (k==NameKind.free && env.scope.kind== .function && env.kindOf n==some .cell) then (n,NameKind.cell) else (n,k)).lookup x=some .cell∨
     (names.map fun (n,k)=>if (k==NameKind.free && env.scope.kind== .function && env.kindOf n==some .cell) then (n,NameKind.cell) else (n,k)).lookup x=some .free)
  | [],_,h=>by simp at h
  | (n,k)::r,x,h=>by
    have ih:= @zct env r x
    rw [List.map_cons]
    rw [List.lookup_cons] at h
    cases hx:x==n with
    | true=>
      rw [hx] at h
      have hk:k= .free:=Option.some.inj h
      subst hk
      dsimp only
      by_cases hb:(NameKind.free==NameKind.free && env.scope.kind== .function && env.kindOf n==some .cell)=true
      · rw [if_pos hb,List.lookup_cons,hx];exact .inl rfl
      · rw [if_neg hb,List.lookup_cons,hx];exact .inr rfl
    | false=>
      rw [hx] at h
      have:=ih h
      dsimp only
      by_cases hb:(k==NameKind.free && env.scope.kind== .function && env.kindOf n==some .cell)=true
      · rw [if_pos hb,List.lookup_cons,hx];exact this
      · rw [if_neg hb,List.lookup_cons,hx];exact this
section
variable {X:Cx} {pins:List (Addr×Obj)} {σ:St} {H:Hp} {s:Shared}
theorem zrq {loc free:List Str} {fr:List Nat} {scope:Scope} {cl:List (Str×Addr)} {h1:Heap} {t1:Nat} {fp:List Addr} (S:CompScope X loc free fr scope) (I:Inv X pins σ H s)
  (hc1: ∀x c,cl.lookup x=some c→X.env.cells.lookup x=some c) (hc2: ∀y∈scope.names,y.2= .free→∃c,cl.lookup y.1=some c)
  (hns:h1.Ns s.heap.objs.size (fun _=>none)) (hk: ∀b o,s.heap.get? b=some o→h1.get? b=some o)
  (hfp: ∀b∈fp,yH X pins H b) (hfo: ∀b∈fp,∃o,s.heap.get? b=some o):
  Inv (yU X (loc++free) scope cl s.heap.objs.size s H fp) [] (cst loc.length fr σ) H {s with heap:=h1,toks:=t1}:=by
 have fpb: ∀b∈fp,b < s.heap.objs.size:=fun b hb=>let ⟨o,e⟩:=hfo b hb;Heap.lt_size e
 refine ⟨⟨I.ok.mod,S.kind,I.ok.glob,I.ok.blt,Nat.le_refl _,fun x y c e1 e2=>I.ok.inj x y c (hc1 _ _ e1) (hc1 _ _ e2),fun x hx=>?_,fun x c f=>(nomatch f),I.ok.hd,I.ok.frames,.inl rfl,fun b hb=>?_,I.bs,Nat.le_trans I.ok.bsz I.sz,fun b o e hb=>?_,fun b hb z=>?_,I.stack,I.stkFree⟩,
  rfl,I.bare,Un.kept hk,⟨_,hns,fun i x v e1 e2 e3=>?_⟩,fun x c e=>?_,I.hok.fresh (Nat.le_refl _),fun x c e=>I.freeC x c (hc1 x c e),fun p hp=>absurd (show p∈([]:List (Addr×Obj)) from hp) (by simp),I.hok.kept hk,?_⟩
 ·have q:scope.names.lookup x=some .free:=zcp S.cell hx
  exact hc2 (x,.free) (PySem.mem_of_lookup q) rfl
 ·exact ⟨Nat.ne_of_lt (fpb b hb),fun x c e=>(hfp b hb).2.2.2.2.1 x c (hc1 x c e)⟩
 ·rcases (hfp b hb).2.2.2.1 with z | z
  ·exact I.ok.noex b o e z
  ·exact absurd (Nat.lt_of_lt_of_le (Heap.lt_size e) (Nat.le_trans I.ok.bsz z)) (Nat.lt_irrefl _)
 ·rcases List.mem_cons.mp (I.stkSub b z) with e | e
  ·exact (hfp b hb).2.1 e
  ·exact (hfp b hb).2.2.1 e
 ·have e1':(loc++free)[i]? =some x:=e1
  unfold cst at e2
  by_cases hi:i < loc.length
  ·rw [List.getElem?_append_left (by simpa using hi),List.getElem?_replicate] at e2
   rw [if_pos hi] at e2
   cases e2
  ·have hi':loc.length≤i:=Nat.le_of_not_lt hi
   rw [List.getElem?_append_right (by simpa using hi'),List.length_replicate,List.getElem?_map] at e2
   rw [List.getElem?_append_right hi'] at e1'
   cases hj:fr[i - loc.length]? with
   | none=>rw [hj] at e2;cases e2
   | some j=>
    rw [hj] at e2
    have e2':(σ[j]?).join=some v:=Option.some.inj e2
    obtain ⟨n1,n2⟩:=S.at_ _ j x hj e1'
    have e4:σ[j]? =some (some v):=by
     cases q:σ[j]? with
     | none=>rw [q] at e2';cases e2'
     | some z=>rw [q] at e2';exact congrArg some e2'
    have kf:=S.frees (x,.free) (PySem.mem_of_lookup n2) rfl
    obtain ⟨m,hn,hl⟩:=I.loc
    obtain ⟨u,r,l⟩:=hl j x v n1 e4 (kf.elim (fun z=> .inr (.inl z)) fun z=> .inr (.inr z))
    refine ⟨u,r,.inr ⟨zct n2,?_⟩⟩
    obtain ⟨c,hc⟩:=hc2 (x,.free) (PySem.mem_of_lookup n2) rfl
    have hcx:=hc1 x c hc
    rcases l with ⟨hk',_⟩ | ⟨_,c',hc',hcell⟩
    ·rcases kf with z | z <;> (rw [hk'] at z;cases z)
    ·rw [hcx] at hc'
     cases hc'
     obtain ⟨o,ho,hd⟩:=hcell
     exact ⟨c,hc,o,hk _ _ ho,hd⟩
 ·obtain ⟨v,o,ho,hd⟩:=I.cell x c (hc1 x c e)
  exact ⟨v,o,hk _ _ ho,hd⟩
 ·show (cst loc.length fr σ).length=(loc++free).length
  unfold cst
  rw [List.length_append,List.length_replicate,List.length_map,List.length_append,S.len]
abbrev zzg (J:It) (g:TG) (tc:TT) (te:TE) (σ0:St) (H:Hp) (Q:VK) (D:Addr):Prop:=
 ∃W:Nat→Nat→List V→St→Hp→Prop,(∃m,W 0 m [] σ0 (zj H D (.lst [])))∧∀i m acc σ' H',W i m acc σ' H'→H' D=some (.lst acc)∧
  ((J.stop i H'∧Q (.ref D) H')∨(J.go i H'∧∃N:List V→St→Hp→Prop,(∀acc' σ3 H5,N acc' σ3 H5→∃m',m' < m∧W (i+1) m' acc' σ3 H5)∧∀x H2,J.yld i H' x H2→g x σ' H2 fun σ3 H3=>tc σ3 H3 fun b H4=>
   if b=true then te σ3 H4 fun v H5=>H5 D=some (.lst acc)∧acc.length < sizeLine∧N (acc++[v]) σ3 (zj H5 D (.lst (acc++[v])))
   else N acc σ3 H4))
def zq6 (wi:TI) (k:Nat) (fr:List Nat) (g:TG) (tc:TT) (te:TE):TE:=fun σ H Q=>wi σ H fun J H1=> ∀D,H1 D=none→zzg J g tc te (cst k fr σ) H1 Q D
def z0i:TT:=fun _ H Q=>Q true H
def PTs (X:Cx) (ifs:List Expr) (t:TT):Prop:=
 ∀(pins:List (Addr×Obj)) (s:Shared) (σ:St) (H:Hp) (Q:Bool→Hp→Prop),Inv X pins σ H s→t σ H Q→
  wpAny (model X.prog X.w) X.A (forIn ifs true fun c r=>if r=true then do let ok ←isTrue c X.env (eval c X.env);pure (ForInStep.yield ok) else pure (ForInStep.yield r)) (TP X pins σ Q) X.xe s
theorem zu3:PTs X [] z0i:=fun pins s σ H Q I h=>wpAny_tests_nil ⟨H,I,h⟩
theorem zt0 {c:Expr} {t:TT} (h:PT X c t):PTs X [c] t:=fun pins s σ H Q I q=>wpAny_tests_one (h pins s σ H Q I q)
structure CompEnd (X:Cx) (pins:List (Addr×Obj)) (σ:St) (Q:VK) (D C:Addr) (s6:Shared):Prop where
 inv: ∃H5,Inv X pins σ H5 s6∧H5 C=none∧Q (.ref D) H5
 ns: ∃m,s6.heap.Ns C m
 neL:C≠X.env.locals
 nfs:C∉X.fs
 new:X.s₀.heap.objs.size≤C
 cel: ∀x c,X.env.cells.lookup x=some c→c≠C
 pin: ∀p∈X.pn++pins,p.1≠C
theorem zlk {elt tg iter:Expr} {ifs:List Expr} {loc free:List Str} {fr:List Nat} {scope:Scope} {pos:Pos} {wi:TI} {g:TG} {tc:TT} {te:TE} (hc:X.calm=true) (S:CompScope X loc free fr scope) (hi:PI X tg iter wi)
  (hg: ∀cl C s H ex,PG (yU X (loc++free) scope cl C s H ex) tg g) (ht: ∀cl C s H ex,PTs (yU X (loc++free) scope cl C s H ex) ifs tc) (he: ∀cl C s H ex,PE (yU X (loc++free) scope cl C s H ex) elt te)
  (I:Inv X pins σ H s) {Q:VK} (h:zq6 wi loc.length fr g tc te σ H Q) {cl:List (Str×Addr)} (hc1: ∀x c,cl.lookup x=some c→X.env.cells.lookup x=some c) (hc2: ∀y∈scope.names,y.2= .free→∃c,cl.lookup y.1=some c)
  {RR:Value→Addr→Result→Shared→Prop} (hRR: ∀D C s6,CompEnd X pins σ Q D C s6→RR (.ref D) C (.ok .next) s6):
  wpAny (model X.prog X.w) X.A (eval iter X.env) (fun x s1=>wpAny (model X.prog X.w) X.A (pyIter x) (fun it s2=>wpAny (model X.prog X.w) X.A (newList []) (fun acc s3=>
   wpAny (model X.prog X.w) X.A (newFunctionEnv scope X.env.globals cl [] X.env.qual none .none (some X.env)) (fun cenv s4=>
    codeAny (model X.prog X.w) X.A (.compStart (.ListComp elt [⟨tg,iter,ifs,0⟩] scope pos) 0 it acc {cenv with scope:=relabel scope X.env}) (RR acc cenv.locals) s4) X.xe s3) X.xe s2) X.xe s1) X.xe s:=by
 refine zt (hi pins s σ H _ I h) fun v s1 h1=>zt h1 fun itv s2 h2=>?_
 obtain ⟨it,fp,tn,J,H2,e,I2,T,st2,f2,q2⟩:=h2
 subst e
 have hD:H2 s2.heap.objs.size=none:=I2.hok.fresh (Nat.le_refl _)
 obtain ⟨W,⟨m0,w0⟩,turn⟩:=q2 s2.heap.objs.size hD
 refine wpAny_newObj_type ?_
 generalize hs3:({s2 with heap:=s2.heap.push {cls:= .type "list",dict:=none,data:= .seq ([]:List Value).toArray}}:Shared)=s3
 have I3:Inv X pins σ (zj H2 s2.heap.objs.size (.lst [])) s3:=by
  rw [←hs3]
  exact I2.lnew (its:=[]) (t':=s2.toks) .nil (Nat.zero_le _)
 have k23: ∀b o,s2.heap.get? b=some o→s3.heap.get? b=some o:=fun b o q=>by rw [←hs3];exact Heap.get?_push_of_some _ q
 have f3: ∀b∈fp,yH X pins (zj H2 s2.heap.objs.size (.lst [])) b:=fun b hb=>by
  obtain ⟨o,e,_⟩:=T.obj _ _ st2 b hb
  exact ⟨by rw [zR (Nat.ne_of_lt (Heap.lt_size e))];exact (f2 b hb).1,(f2 b hb).2⟩
 have o3: ∀b∈fp,∃o,s3.heap.get? b=some o:=fun b hb=>let ⟨o,e,_⟩:=T.obj _ _ st2 b hb;⟨o,k23 b o e⟩
 have st3:tn 0 s3.heap:=T.keep _ _ _ st2 fun b _ o e=>k23 b o e
 refine wpAny_newFunctionEnv S.cell (by intro y hy;simp at hy) (fun h4 hns hsb=>?_) S.kind
 try dsimp only at hns hsb ⊢
 have k34: ∀b o,s3.heap.get? b=some o→h4.get? b=some o:=fun b o q=>hsb.extBut b o (Nat.ne_of_lt (Heap.lt_size q)) (Heap.get?_push_of_some _ q)
 have I4:=zrq (t1:=s3.toks+([]:List (Str×Value)).length) S I3 hc1 hc2 hns k34 f3 o3
 have hgC:=hg cl s3.heap.objs.size s3 (zj H2 s2.heap.objs.size (.lst [])) fp
 have htC:=ht cl s3.heap.objs.size s3 (zj H2 s2.heap.objs.size (.lst [])) fp
 have heC:=he cl s3.heap.objs.size s3 (zj H2 s2.heap.objs.size (.lst [])) fp
 have st4:tn 0 h4:=T.keep _ _ _ st3 fun b _ o e=>k34 b o e
 generalize hY:yU X (loc++free) scope cl s3.heap.objs.size s3 (zj H2 s2.heap.objs.size (.lst [])) fp=Y at I4 hgC htC heC
 have fY: ∀{H':Hp},(∀b∈fp,H' b=none)→∀b∈fp,yH Y [] H' b:=fun hn b hb=>by
  subst hY
  refine ⟨hn b hb,?_,fun z=>?_,.inl hb,fun x c e=>(f3 b hb).2.2.2.2.1 x c (hc1 x c e),fun p hp=>absurd (show p∈([]:List (Addr×Obj)) from hp) (by simp)⟩
  ·obtain ⟨o,e⟩:=o3 b hb
   exact Nat.ne_of_lt (Heap.lt_size e)
  ·rcases List.mem_cons.mp (I3.stkSub b z) with e | e
   ·exact (f3 b hb).2.1 e
   ·exact (f3 b hb).2.2.1 e
 have hYp:Y.prog=X.prog:=by rw [←hY];rfl
 have hYw:Y.w=X.w:=by rw [←hY];rfl
 have hYK:Y.K=X.K:=by rw [←hY];rfl
 have hYA:Y.A=X.A:=by rw [←hY];rfl
 have hYe:Y.env=compEnvC scope cl s3.heap.objs.size X.env:=by rw [←hY];rfl
 have hYx:Y.xe=fun _ _=>False:=by rw [←hY];rfl
 have hYc:Y.calm=true:=by rw [←hY];exact hc
 have loop:codeAny (model X.prog X.w) X.A (.compLoop (.ListComp elt [⟨tg,iter,ifs,0⟩] scope pos) 0 (.ref it) (.ref s2.heap.objs.size) (compEnvC scope cl s3.heap.objs.size X.env))
   (RR (.ref s2.heap.objs.size) s3.heap.objs.size) {s3 with heap:=h4,toks:=s3.toks+([]:List (Str×Value)).length}:=by
  refine zoh (fun n s'=> ∃i acc σ' H',Inv Y [] σ' H' s'∧tn i s'.heap∧(∀b∈fp,H' b=none)∧W i n acc σ' H') ?_ m0 ⟨0,[],_,_,I4,st4,fun b hb=>(f3 b hb).1,w0⟩
  rintro n s5 ⟨i,acc,σ5,H5,I5,st5,fr5,w5⟩
  obtain ⟨hacc,turn5⟩:=turn i n acc σ5 H5 w5
  rcases turn5 with ⟨stop,qn⟩ | ⟨go,N,hN,step⟩
  ·have d:=T.done Y hYp hYw hYK hYc i [] s5 σ5 H5 (fun _ _=>False) I5 (fY fr5) st5 stop
   rw [hYA] at d
   refine zt d fun r s6 ⟨hr,I6⟩=>?_
   subst hr
   obtain ⟨m,hn,_⟩:=id I6.loc
   rw [hYe] at hn
   have fC:H5 s3.heap.objs.size=none:=by
    have:=I6.free
    rw [hYe] at this
    exact this
   have hok6:HOk X.prog X.w H5 s6.heap:=by
    have:=I6.hok
    rw [hYp,hYw] at this
    exact this
   have un6:Un (yz X.stack) fp (zj H2 s2.heap.objs.size (.lst [])) H5 s3.heap s6.heap:=by
    have:=I6.base
    subst hY
    exact this
   have os6:s6.os=s3.os:=by
    have:=I6.os
    subst hY
    exact this
   have IX:Inv X pins σ H5 s6:=I3.call' (ch:=fp) os6 un6 hok6 I6.bare fun b hb=>⟨(f3 b hb).2.2.2.1,(f3 b hb).2.1,(f3 b hb).2.2.2.2.1,(f3 b hb).2.2.2.2.2⟩
   refine hRR _ _ s6 ⟨⟨H5,IX,fC,qn⟩,⟨m,hn⟩,Nat.ne_of_gt I3.lt,I3.nofs (Nat.le_refl _),I3.sz,fun x c e z=>?_,fun p hp z=>?_⟩
   ·obtain ⟨v,q⟩:=I3.cell x c e
    exact absurd q.lt (by rw [z];exact Nat.lt_irrefl _)
   ·exact absurd (Heap.lt_size (I3.pin p hp).1) (by rw [z];exact Nat.lt_irrefl _)
  ·have d:=T.item Y hYp hYw hYK hYc i [] s5 σ5 H5 (fun _ _=>False) I5 (fY fr5) st5 go
   rw [hYA] at d
   refine zt d fun r s6 ⟨u,hr,h6⟩=>?_
   subst hr
   refine zt h6 fun _ s7 ⟨x,H7,I7,r7,y7,st7,fr7⟩=>?_
   have I7':=I7.pinned (fY fr7) (T.obj _ _ st7)
   have g7:=hgC _ s7 σ5 H7 x u _ I7' r7 (step x H7 y7)
   rw [hYp,hYw,hYA,hYe,hYx] at g7
   refine zt g7 fun _ s8 ⟨σ8,H8,I8,q8⟩=>?_
   have t8:=htC _ s8 σ8 H8 _ I8 q8
   rw [hYp,hYw,hYA,hYe,hYx] at t8
   have back: ∀{σ9:St} {H9:Hp} {s9:Shared} {acc':List V},Inv Y ([]++zjj fp s7.heap) σ9 H9 s9→N acc' σ9 H9→∃m,m < n∧∃i acc σ' H',Inv Y [] σ' H' s9∧tn i s9.heap∧(∀b∈fp,H' b=none)∧W i m acc σ' H':=fun {σ9 H9 s9 acc'} I9 w9=>by
    obtain ⟨m',hm,w9⟩:=hN _ _ _ w9
    refine ⟨m',hm,i+1,acc',σ9,H9,I9.unpinned,T.keep _ _ _ st7 fun b hb o e=>(I9.pin (b,o) (List.mem_append_right _ (List.mem_append_right _ (zd7 hb e)))).1,fun b hb=>?_,w9⟩
    obtain ⟨o,e,d⟩:=T.obj _ _ st7 b hb
    exact (I9.pin (b,o) (List.mem_append_right _ (List.mem_append_right _ (zd7 hb e)))).2.1
   refine zt t8 fun ok s9 ⟨H9,I9,q9⟩=>?_
   cases ok with
   | false=>
    rw [if_neg (by simp)] at q9 ⊢
    exact back I9 q9
   | true=>
    rw [if_pos rfl] at q9 ⊢
    have e9:=heC _ s9 σ8 H9 _ I9 q9
    rw [hYp,hYw,hYA,hYe,hYx] at e9
    refine zt e9 fun y s10 ⟨z,H10,I10,r10,hacc10,hlen,w10⟩=>?_
    have a10:=qW (X:=Y) _ s10 σ8 H10 (.ref s2.heap.objs.size) [z] (.ref s2.heap.objs.size) [y] (fun _ H'=>N (acc++[z]) σ8 H') I10 rfl (.cons r10 .nil) ⟨_,_,z,rfl,rfl,hacc10,hlen,w10⟩
    rw [hYp,hYw,hYA,hYx] at a10
    exact zt a10 fun _ s11 ⟨_,H11,I11,_,w11⟩=>back I11 w11
 exact codeAny_compStart_list loop (T.self X.A 0 _ _ _ st4 loop)
theorem zu6 {elt tg iter:Expr} {ifs:List Expr} {loc free:List Str} {fr:List Nat} {scope:Scope} {pos:Pos} {wi:TI} {g:TG} {tc:TT} {te:TE} (hc:X.calm=true) (S:CompScope X loc free fr scope) (hi:PI X tg iter wi)
  (hg: ∀cl C s H ex,PG (yU X (loc++free) scope cl C s H ex) tg g) (ht: ∀cl C s H ex,PTs (yU X (loc++free) scope cl C s H ex) ifs tc) (he: ∀cl C s H ex,PE (yU X (loc++free) scope cl C s H ex) elt te)
  (hs: ∀x,foldedSetIterable iter X.env x=pure x:=by intro _;rfl):PE X (.ListComp elt [⟨tg,iter,ifs,0⟩] scope pos) (zq6 wi loc.length fr g tc te):=by
 intro pins s σ H Q I h
 rw [eval_ListComp]
 obtain ⟨cl,hcl,hc1,hc2⟩:=zey (scope:=scope) (env:=X.env) fun y hy hf=>I.ok.has y.1 (S.frees y hy hf)
 refine wpAny_comprehension_free (use:=none) rfl hs hcl S.kind S.names ?_
 refine zlk (RR:=fun acc C=>compPost (model X.prog X.w) X.A X.xe none (EP X pins σ Q) acc C) hc S hi hg ht he I h hc1 hc2 fun D C s6 ce=>?_
 obtain ⟨H5,IX,fC,q⟩:=ce.inv
 obtain ⟨m,hn⟩:=ce.ns
 exact ⟨m,hn,fun h7 hs7=>⟨.ref D,H5,IX.turned (t':=s6.toks) (fun b o hb e=>hs7.extBut b o hb e) fC ce.neL (.inr ce.new) ce.cel ce.pin,rfl,q⟩⟩
theorem zhs {i:Nat} {y:Str} {py:Pos} {spos:Pos} {elt tg iter:Expr} {ifs:List Expr} {loc free:List Str} {fr:List Nat} {scope:Scope} {pos:Pos} {wi:TI} {g:TG} {tc:TT} {te:TE} (hN:X.N.Nodup) (hi':X.N[i]? =some y) (hx:X.env.scope.names.lookup y=some .local)
  (hc:X.calm=true) (S:CompScope X loc free fr scope) (hi:PI X tg iter wi)
  (hg: ∀cl C s H ex,PG (yU X (loc++free) scope cl C s H ex) tg g) (ht: ∀cl C s H ex,PTs (yU X (loc++free) scope cl C s H ex) ifs tc) (he: ∀cl C s H ex,PE (yU X (loc++free) scope cl C s H ex) elt te)
  (hs: ∀x,foldedSetIterable iter X.env x=pure x:=by intro _;rfl)
  (hsw:swapsWith (.ListComp elt [⟨tg,iter,ifs,0⟩] scope pos) (some (.Name y py)) spos.line X.env=pure true:=by rfl):
  PS X (.Assign [.Name y py] (.ListComp elt [⟨tg,iter,ifs,0⟩] scope pos) spos) (tAsg (zq6 wi loc.length fr g tc te) (zpt i)):=by
 intro pins s σ H D I h
 obtain ⟨cl,hcl,hc1,hc2⟩:=zey (scope:=scope) (env:=X.env) fun y hy hf=>I.ok.has y.1 (S.frees y hy hf)
 rw [exec_Assign_Name_used _ _ _ _ hsw]
 refine wpAny_bind (wpAny_standAt (wpAny_bind ?_))
 show wpAny _ X.A (do let _ ←comprehension (.ListComp elt [⟨tg,iter,ifs,0⟩] scope pos) scope X.env _ (newList []) false (eval iter X.env) (some (assign (.Name y py) X.env))) _ _ s
 refine wpAny_bind (wpAny_mono (wpAny_comprehension_free (use:=some (assign (.Name y py) X.env)) (Q:=fun _ s'=>SP X pins D .next s') rfl hs hcl S.kind S.names ?_) (fun _ s' hq=>wpAny_pure (wpAny_pure hq)) fun _ _ e=>e)
 refine zlk (RR:=fun acc C=>compPost (model X.prog X.w) X.A X.xe (some (assign (.Name y py) X.env)) (fun _ s'=>SP X pins D .next s') acc C) hc S hi hg ht he I h hc1 hc2 fun L C s6 ce=>?_
 obtain ⟨H5,IX,fC,q⟩:=ce.inv
 obtain ⟨m,oC,es,ep,ho,hd,hk⟩:=ce.ns
 show wpAny _ X.A (assign (.Name y py) X.env (.ref L)) _ _ s6
 have IP:Inv X (pins++[(C,oC)]) σ H5 s6:=IX.pins_of fun p hp=>(List.mem_append.mp hp).elim (fun z=>IX.pin p (List.mem_append_right _ z)) fun z=>by
  rw [List.mem_singleton.mp z]
  exact ⟨ho,fC,ce.neL,ce.nfs,fun v e=>by rw [hd] at e;cases e⟩
 refine wpAny_assign_Name (zfy IP hN hi' (.inl hx) (v:= .ref L) rfl (fun s' I'=>?_) (.inr hx))
 have pc:=I'.pin (C,oC) (List.mem_append_right _ (List.mem_append_right _ List.mem_cons_self))
 refine ⟨m,⟨oC,es,ep,pc.1,hd,hk⟩,fun h7 hs7=>?_⟩
 exact ⟨_,H5,I'.unpinned.turned (t':=s'.toks) (fun b o hb e=>hs7.extBut b o hb e) fC ce.neL (.inr ce.new) ce.cel ce.pin,q⟩
end
section
variable {g:TG} {tc:TT} {te:TE} {k:Nat} {fr:List Nat} {σ:St} {H:Hp} {Q:VK} {D:Addr}
end
end L2
namespace Srt
open PySem PySem.W PyProof.Rows
structure Ord {κ:Type} (lt:κ→κ→Bool):Prop where
 trans: ∀a b c,lt b a=false→lt c b=false→lt c a=false
 asym: ∀a b,lt a b=true→lt b a=false
section
variable {κ:Type} {lt:κ→κ→Bool} (O:Ord lt) (f:Nat→κ) {n:Nat}
noncomputable abbrev ky (p:Array Nat) (i:Nat):κ:=f (p.getD i 0)
def Up (lt:κ→κ→Bool) (f:Nat→κ) (p:Array Nat) (m:Nat):Prop:=∀i j,i≤j→j < m→lt (ky f p j) (ky f p i)=false
structure Pm (n:Nat) (p:Array Nat):Prop where
 perm:p.toList.Perm (List.range n)
theorem Pm.size {p:Array Nat} (h:Pm n p):p.size=n:=by
 have:=h.perm.length_eq
 simpa using this
include O
theorem irr (a:κ):lt a a=false:=by
 cases h:lt a a with
 | false=>rfl
 | true=>have:=O.asym a a h;rw [h] at this;exact this
end
end Srt
namespace L2
open PySem PySem.Spec PyProof.Rows
section
variable {X:Cx} {pins:List (Addr×Obj)} {σ:St} {H:Hp} {s:Shared} {h':Heap}
theorem Inv.turnLay {ch:List Addr} {a:Addr} {o:HO} {t':Nat} (I:Inv X pins σ H s) (k: ∀b u,b∉ch→s.heap.get? b=some u→h'.get? b=some u) (hch: ∀b∈ch,yH X pins H b)
  (hp:s.heap.objs.size≤a) (new:ObjOk X.prog X.w (zj H a o) h' a o):Inv X pins σ (zj H a o) {s with heap:=h',toks:=t'}:=by
 have hn:H a=none:=I.hok.fresh hp
 have ne: ∀b u,s.heap.get? b=some u→b≠a:=fun b u e=>Nat.ne_of_lt (Nat.lt_of_lt_of_le (Heap.lt_size e) hp)
 have nc: ∀b u,H b=some u→b∉ch:=fun b u e hb=>by have:=(hch b hb).1;rw [e] at this;cases this
 refine I.step (g':=s.gens) (d':=s.drawn) (ch:=ch) (fun b hb=>⟨(hch b hb).2.2.2.1,(hch b hb).2.1,(hch b hb).2.2.2.2.1,(hch b hb).2.2.2.2.2⟩) (fun b u _ _ hc e _=>k b u hc e) (fun b u _ _ hc e _=>⟨u.slots,k b u hc e⟩)
  (fun b u _ e n=>by rw [zR (ne b u e)];exact n) (fun b u hc e=>⟨u,k b u hc e⟩) (fun b xs e=>by rw [zR (y0 e hn)];exact e) (fun b u v e=>by rw [zR (y0 e hn)];exact e)
  (fun b ps e=>⟨#[],by rw [zR (y0 e hn)];rw [e];simp⟩) (fun m hm=>?_) (fun b u e=>?_) I.bare
 ·obtain ⟨ob,es,ep,ho,r⟩:=hm
  refine ⟨ob,es,ep,k _ ob (fun hb=>(hch _ hb).2.1 rfl) ho,r⟩
 ·by_cases hb:b=a
  ·subst hb;rw [yD] at e;cases e;exact new
  ·rw [zR hb] at e
   refine (I.hok b u e).stay (fun c v hc q=>k c v ?_ q) (fun c q=>by rw [zR (y0 q hn)];exact q) fun c xs q=>by rw [zR (y0 q hn)];exact q
   rcases hc with z | z
   ·rw [z];exact nc b u e
   ·exact nc c _ z
theorem Inv.turnedL {ch:List Addr} {t':Nat} (I:Inv X pins σ H s) (k: ∀b u,b∉ch→s.heap.get? b=some u→h'.get? b=some u) (hch: ∀b∈ch,yH X pins H b):Inv X pins σ H {s with heap:=h',toks:=t'}:=by
 have nc: ∀b u,H b=some u→b∉ch:=fun b u e hb=>by have:=(hch b hb).1;rw [e] at this;cases this
 refine I.step (g':=s.gens) (d':=s.drawn) (ch:=ch) (fun b hb=>⟨(hch b hb).2.2.2.1,(hch b hb).2.1,(hch b hb).2.2.2.2.1,(hch b hb).2.2.2.2.2⟩) (fun b u _ _ hc e _=>k b u hc e) (fun b u _ _ hc e _=>⟨u.slots,k b u hc e⟩)
  (fun b u _ e n=>n) (fun b u hc e=>⟨u,k b u hc e⟩) (fun b xs e=>e) (fun b u v e=>e) (fun b ps e=>⟨#[],by rw [e];simp⟩) (fun m hm=>?_) (fun b u e=>?_) I.bare
 ·obtain ⟨ob,es,ep,ho,r⟩:=hm
  refine ⟨ob,es,ep,k _ ob (fun hb=>(hch _ hb).2.1 rfl) ho,r⟩
 ·refine (I.hok b u e).stay (fun c v hc q=>k c v ?_ q) (fun c q=>q) fun c xs q=>q
  rcases hc with z | z
  ·rw [z];exact nc b u e
  ·exact nc c _ z
end
section
variable {X:Cx}
theorem zku:CallR X (.builtin "isinstance") (fun xs H Q=> ∃x T t b,xs=[x,.ty T]∧TyOf X.K H x t∧PySem.W.kitOne X.K t (.type T)=some b∧Q (.bl b) H):=by
 intro pins s σ H xs us Q I r h
 obtain ⟨x,T,t,b,rfl,ty,e,q⟩:=h
 obtain ⟨u,v,rfl,rx,ry⟩:=zty r
 cases ry
 exact znt I rx ty e fun tk=>⟨.bl b,H,I.tok tk,rfl,q⟩
theorem zme {A:Around} (h:A.handled=none):A.in1.handled=none:=h
theorem zr0 (hc:X.calm=true):CallR X (.builtin "all") (fun xs H Q=> ∃(p:Addr) (bs:List Bool),xs=[.ref p]∧SqL X.K H p (bs.map V.bl)∧Q (.bl (bs.all id)) H):=by
 intro pins s σ H xs us Q I r h
 obtain ⟨p,bs,rfl,hq,q⟩:=h
 obtain ⟨u,rfl,rx⟩:=zhz r
 cases rx
 obtain ⟨its,rv,pl,hz⟩:=I.list hq
 refine call_all_walk (wpAny_pyIter_list pl.isList ?_)
 have hp:p < s.heap.objs.size:=by obtain ⟨o,n,e,_⟩:=pl;exact Heap.lt_size e
 have hlen:its.length=bs.length:=by rw [←rv.length,List.length_map]
 refine ⟨s.heap.objs.size,_,_,_,_,_,fun i=>bs.getD i true,rfl,Walks.list (zme (I.ok.hd hc)) _ p (Nat.ne_of_lt hp) its.toArray,⟨⟨_,Heap.get?_push_size _ rfl,rfl,rfl⟩,pl.isList.push _⟩,?_,fun h' tk k=>?_⟩
 ·intro i v s' Q' E' hv hQ
  have hv':its[i]? =some v:=by simpa using hv
  have hi:i < bs.length:=by rw [←hlen];exact (List.getElem?_eq_some_iff.mp hv').1
  obtain ⟨u,hu,ru⟩:=rv.get (i:=i) (x:= .bl bs[i]) (by simp [hi])
  rw [hv'] at hu;cases hu
  cases ru
  refine wpAny_truthy_bool ?_
  have e:bs.getD i true=bs[i]:=by simp [hi]
  dsimp only at hQ
  rw [e] at hQ
  exact hQ
 ·refine ⟨.bl _,H,I.kept (t':=tk) (fun b o e=>k b o (by simpa using Nat.ne_of_lt (Heap.lt_size e)) (Heap.get?_push_of_some _ e)),?_,q⟩
  show Value.bool _=Value.bool _
  congr 1
  rw [List.size_toArray,hlen]
  have: ∀(bs:List Bool) (n:Nat),n=bs.length→(List.range n).all (fun i=>bs.getD i true)=bs.all id:=by
   intro bs n hn
   rw [Bool.eq_iff_iff,List.all_eq_true,List.all_eq_true]
   constructor
   ·intro h x hx
    obtain ⟨i,hi,rfl⟩:=List.mem_iff_getElem.mp hx
    have:=h i (List.mem_range.mpr (by omega))
    simpa [hi] using this
   ·intro h i hi
    have hi':i < bs.length:=by have:=List.mem_range.mp hi;omega
    have:=h bs[i] (List.getElem_mem hi')
    simpa [hi'] using this
  exact this bs _ rfl
theorem zgh (ns:List Int): ∀k,k≤ns.length→preSum (fun i=>ns.getD i 0) k=(ns.take k).sum
 | 0,_=>by simp [preSum]
 | k+1,h=>by
  have hk:k < ns.length:=h
  have e:ns.take (k+1)=ns.take k++[ns[k]]:=by rw [List.take_add_one];simp [hk]
  rw [preSum,zgh ns k (by omega),e,List.sum_append]
  simp [hk]
def zvh (ns:List Int):Prop:=∀j,j < ns.length→InLong (ns.getD j 0)∧InLong ((ns.take (j+1)).sum)
theorem zql (hc:X.calm=true):CallR X (.builtin "sum") (fun xs H Q=> ∃(p:Addr) (ns:List Int),xs=[.ref p]∧SqL X.K H p (ns.map V.int)∧zvh ns∧Q (.int ns.sum) H):=by
 intro pins s σ H xs us Q I r h
 obtain ⟨p,ns,rfl,hq,ok,q⟩:=h
 obtain ⟨u,rfl,rx⟩:=zhz r
 cases rx
 obtain ⟨its,rv,pl,hz⟩:=I.list hq
 refine call_sum_walk (wpAny_pyIter_list pl.isList ?_)
 have hp:p < s.heap.objs.size:=by obtain ⟨o,n,e,_⟩:=pl;exact Heap.lt_size e
 have hlen:its.length=ns.length:=by rw [←rv.length,List.length_map]
 refine ⟨s.heap.objs.size,_,_,_,_,_,fun i=>ns.getD i 0,rfl,Walks.list (zme (I.ok.hd hc)) _ p (Nat.ne_of_lt hp) its.toArray,⟨⟨_,Heap.get?_push_size _ rfl,rfl,rfl⟩,pl.isList.push _⟩,?_,?_,?_,fun h' tk t' k=>?_⟩
 ·intro b hb
  have hs:(s.heap.push {cls:= .type "list_iterator",data:= .fields #[.ref p,.int 0 0]}).objs.size=s.heap.objs.size+1:=Heap.size_push ..
  show b < (s.heap.push {cls:= .type "list_iterator",data:= .fields #[.ref p,.int 0 0]}).objs.size
  rw [hs]
  rcases List.mem_cons.mp hb with rfl | hb
  ·exact Nat.lt_succ_self _
  ·have:b=p:=by simpa using hb
   subst this;exact Nat.lt_succ_of_lt hp
 ·intro i v hv
  have hv':its[i]? =some v:=by simpa using hv
  have hi:i < ns.length:=by rw [←hlen];exact (List.getElem?_eq_some_iff.mp hv').1
  obtain ⟨u,hu,ru⟩:=rv.get (i:=i) (x:= .int ns[i]) (by simp [hi])
  rw [hv'] at hu;cases hu
  obtain ⟨t,e⟩:=ru
  exact ⟨t,by rw [e];simp [hi]⟩
 ·intro j hj
  have hj':j < ns.length:=by rw [←hlen];simpa using hj
  rw [zgh ns (j+1) hj']
  exact ok j hj'
 ·refine ⟨.int _,H,I.kept (t':=tk) (fun b o e=>k b o (by simpa using Nat.ne_of_lt (Heap.lt_size e)) (Heap.get?_push_of_some _ e)),⟨t',?_⟩,q⟩
  show Value.int _ _=Value.int _ _
  congr 1
  rw [List.size_toArray,hlen,zgh ns _ (Nat.le_refl _),List.take_length]
theorem Paired.getL {α β:Type} {F:α→β→Prop}: ∀{l₁:List α} {l₂:List β} {i:Nat} {a:α},Paired F l₁ l₂→l₁[i]? =some a→∃b,l₂[i]? =some b∧F a b
 | _,_,_,_,.nil,e=>by simp at e
 | _,_,0,_,.cons r _,e=>by simp at e;subst e;exact ⟨_,rfl,r⟩
 | _,_,i+1,a,.cons _ t,e=>by
  obtain ⟨u,h1,h2⟩:=Paired.getL (i:=i) (a:=a) t (by simpa using e)
  exact ⟨u,by simpa using h1,h2⟩
end
end L2
namespace L2
open PySem PySem.W PySem.Spec PyProof.Rows
section
variable {prog:Program} {w:World} {A:Around} {E:Value→Shared→Prop} {s:Shared}
end
theorem zee {α:Type} (l:List α) (d:α):(List.range l.length).map (fun i=>l.getD i d)=l:=by
 apply List.ext_getElem
 ·simp
 ·intro i h1 h2
  simp [h2]
section
variable {X:Cx}
theorem Paired.mapL {α β γ:Type} {F:α→β→Prop} {f:γ→α} {g:γ→β}: ∀{l:List γ},(∀c∈l,F (f c) (g c))→Paired F (l.map f) (l.map g)
 | [],_=> .nil
 | c::l,h=> .cons (h c List.mem_cons_self) (Paired.mapL fun d hd=>h d (List.mem_cons_of_mem _ hd))
end
def Itz (K:PySem.W.Frag) (a b:Addr):It:=
 ⟨fun i H=> ∃(xs ys:List V) (x y:V),SqL K H a xs∧SqL K H b ys∧xs[i]? =some x∧ys[i]? =some y,
  fun i H v H'=> ∃(T:Addr) (x y:V),v= .ref T∧H T=none∧H'=zj H T (.tup [x,y])∧(∀xs,SqL K H a xs→xs[i]? =some x)∧∀ys,SqL K H b ys→ys[i]? =some y,
  fun i H=> ∃xs ys,SqL K H a xs∧SqL K H b ys∧(xs.length≤i∨ys.length≤i)⟩
def zzm (z TI TO i1 i2 a b:Addr) (i:Nat) (h:Heap):Prop:=
 IsZip h z TI TO .none∧IsPair h TI (.ref i1) (.ref i2)∧(∃u v,IsPair h TO u v)∧h.IsListIter i1 a i∧h.IsListIter i2 b i
theorem zq7 {P:Program} {w:World} {K:PySem.W.Frag} {elts:List Expr} {x1} {tp:Pos} {z TI TO i1 i2 a b:Addr} (D:ZipApart z TI TO i1 i2 a b):
  Turn P w K (.Tuple elts x1 tp) (Itz K a b) [z,TI,TO,i1,i2] z (zzm z TI TO i1 i2 a b) where
 mem:=by simp
 obj:=fun i h st c hc=>by
  obtain ⟨hz,hTI,⟨u,v,hTO⟩,⟨o1,e1,_,d1⟩,⟨o2,e2,_,d2⟩⟩:=st
  simp only [List.mem_cons,List.not_mem_nil,or_false] at hc
  rcases hc with rfl | rfl | rfl | rfl | rfl
  ·exact ⟨_,hz,fun v e=>by cases e⟩
  ·exact ⟨_,hTI,fun v e=>by cases e⟩
  ·exact ⟨_,hTO,fun v e=>by cases e⟩
  ·exact ⟨_,e1,fun v e=>by rw [d1] at e;cases e⟩
  ·exact ⟨_,e2,fun v e=>by rw [d2] at e;cases e⟩
 keep:=fun i h h' st k=>by
  obtain ⟨hz,hTI,⟨u,v,hTO⟩,h1,h2⟩:=st
  exact ⟨k z (by simp) _ hz,k TI (by simp) _ hTI,⟨u,v,k TO (by simp) _ hTO⟩,h1.at fun o e=>k i1 (by simp) o e,h2.at fun o e=>k i2 (by simp) o e⟩
 item:=fun X hp hw hK hc i pins s σ H E I fp st go=>by
  subst hp hw hK
  obtain ⟨hz,hTI,⟨u,v,hTO⟩,h1,h2⟩:=st
  obtain ⟨xs,ys,x,y,qa,qb,ex,ey⟩:=go
  obtain ⟨vs,rv,pv,_⟩:=I.list qa
  obtain ⟨us,ru,pu,_⟩:=I.list qb
  obtain ⟨vx,evx,rvx⟩:=rv.get ex
  obtain ⟨uy,euy,ruy⟩:=ru.get ey
  refine wpAny_pyNext_zip_item D hz hTI hTO h1 h2 pv.isList pu.isList (x:=vx) (y:=uy) (by simpa using evx) (by simpa using euy) fun h' a1 a2 a3 a4 a5 a6 hk=>?_
  refine ⟨_,rfl,wpAny_letOwnedTupleGo_zip a1 fun h'' b1 b2=>?_⟩
  have nz:s.heap.objs.size≠z:=Nat.ne_of_gt (Heap.lt_size hz)
  have k2: ∀c o,c∉[z,TO,i1,i2]→s.heap.get? c=some o→h''.get? c=some o:=fun c o hcn e=>by
   simp only [List.mem_cons,List.not_mem_nil,or_false,not_or] at hcn
   exact b2.extBut _ _ hcn.1 (hk c o hcn.1 hcn.2.1 hcn.2.2.1 hcn.2.2.2 e)
  have I':Inv X pins σ (zj H s.heap.objs.size (.tup [x,y])) {s with heap:=h'',toks:=s.toks}:=
   I.turnLay (ch:=[z,TO,i1,i2]) k2 (fun c hcn=>fp c (by simp only [List.mem_cons,List.not_mem_nil,or_false] at hcn ⊢;rcases hcn with h | h | h | h <;> simp [h])) (Nat.le_refl _)
    ⟨by show 2≤sizeLine;decide,[vx,uy],.cons rvx (.cons ruy .nil),⟨_,b2.extBut _ _ nz a5,rfl,_,rfl⟩⟩
  have nf:H s.heap.objs.size=none:=I.hok.fresh (Nat.le_refl _)
  refine ⟨.ref s.heap.objs.size,_,I',rfl,⟨_,x,y,rfl,nf,rfl,fun xs' q=>?_,fun ys' q=>?_⟩,⟨b1,b2.extBut _ _ D.TIz (hk _ _ D.TIz D.TITO D.TIi1 D.TIi2 hTI),⟨_,_,b2.extBut _ _ D.TOz a2⟩,a3.extBut b2.extBut D.i1z,a4.extBut b2.extBut D.i2z⟩,fun c hcn=>?_⟩
  ·rw [I.list_inj q qa];exact ex
  ·rw [I.list_inj q qb];exact ey
  ·have hc1:=fp c hcn
   have:c≠s.heap.objs.size:=by
    have hlt:c < s.heap.objs.size:=by
     simp only [List.mem_cons,List.not_mem_nil,or_false] at hcn
     rcases hcn with rfl | rfl | rfl | rfl | rfl
     ·exact Heap.lt_size hz
     ·exact Heap.lt_size hTI
     ·exact Heap.lt_size hTO
     ·obtain ⟨_,e,_⟩:=h1;exact Heap.lt_size e
     ·obtain ⟨_,e,_⟩:=h2;exact Heap.lt_size e
    exact Nat.ne_of_lt hlt
   rw [zR this]
   exact hc1.1
 done:=fun X hp hw hK hc i pins s σ H E I fp st stop=>by
  subst hp hw hK
  obtain ⟨hz,hTI,⟨u,v,hTO⟩,h1,h2⟩:=st
  obtain ⟨xs,ys,qa,qb,hend⟩:=stop
  obtain ⟨vs,rv,pv,_⟩:=I.list qa
  obtain ⟨us,ru,pu,_⟩:=I.list qb
  have l1:=rv.length
  have l2:=ru.length
  refine wpAny_pyNext_zip_end (I.ok.hd hc) D hz hTI hTO h1 h2 pv.isList pu.isList ?_ fun h' hk=>⟨rfl,?_⟩
  ·rcases hend with h | h
   ·exact .inl (by rw [Array.getElem?_eq_none_iff,List.size_toArray];omega)
   ·exact .inr (by rw [Array.getElem?_eq_none_iff,List.size_toArray];omega)
  ·refine I.turnedL (ch:=[z,TO,i1,i2]) (t':=s.toks) (fun c o hcn e=>?_) (fun c hcn=>fp c (by simp only [List.mem_cons,List.not_mem_nil,or_false] at hcn ⊢;rcases hcn with h | h | h | h <;> simp [h]))
   simp only [List.mem_cons,List.not_mem_nil,or_false,not_or] at hcn
   exact hk c o hcn.1 hcn.2.1 hcn.2.2.1 hcn.2.2.2 e
 self:=fun A i s Q E st h=>wpAny_pyIter_zip st.1 h
def iZip (K:PySem.W.Frag) (ta:TA):TI:=fun σ H R=>ta σ H fun vs H1=> ∃(a b:Addr) (xs ys:List V),vs=[.ref a,.ref b]∧SqL K H1 a xs∧SqL K H1 b ys∧R (Itz K a b) H1
theorem zx4 {X:Cx} {elts:List Expr} {x1} {tp:Pos} {e1 e2:Expr} {ta:TA} {p pos:Pos} (hg:Gl X "zip") (hm:X.mg "zip" =none) (ha:PA X [e1,e2] ta) (hs:starEach [e1,e2] X.env=[(false,eval e1 X.env),(false,eval e2 X.env)]:=by rfl) (hs2:starEach [e2] X.env=[(false,eval e2 X.env)]:=by rfl):
  PI X (.Tuple elts x1 tp) (.Call (.Name "zip" p) [e1,e2] [] pos) (iZip X.K ta):=by
 intro pins s σ H R I h
 refine Call_ (ze3 I hg hm (by rfl) (PyProof.Rows.callWith_type1 (zt (ha pos pins s σ H _ I h) fun us s1 ⟨vs,H1,I1,r1,q1⟩=>?_) (by rw [hs,hs2]) (by rw [hs2];rfl)))
 obtain ⟨a,b,xs,ys,rfl,qa,qb,q⟩:=q1
 obtain ⟨u,v,rfl,ru,rv⟩:=zty r1
 cases ru
 cases rv
 obtain ⟨vs,rva,pa,_⟩:=I1.list qa
 obtain ⟨us,rvb,pb,_⟩:=I1.list qb
 have la:a < s1.heap.objs.size:=by obtain ⟨o,n,e,_⟩:=pa;exact Heap.lt_size e
 have lb:b < s1.heap.objs.size:=by obtain ⟨o,n,e,_⟩:=pb;exact Heap.lt_size e
 refine call_zip_2 pa.isList pb.isList fun h' hz hTI hTO hi1 hi2 hsz hk=>?_
 refine wpAny_pyIter_zip hz ?_
 have I2:Inv X pins σ H1 {s1 with heap:=h'}:=I1.kept (t':=s1.toks) hk
 refine ⟨_,[s1.heap.objs.size+4,s1.heap.objs.size+2,s1.heap.objs.size+3,s1.heap.objs.size,s1.heap.objs.size+1],_,_,H1,rfl,I2,zq7 (zipApart_new la lb),⟨hz,hTI,⟨_,_,hTO⟩,hi1,hi2⟩,fun c hc=>?_,q⟩
 have hge:s1.heap.objs.size≤c:=by
  simp only [List.mem_cons,List.not_mem_nil,or_false] at hc
  rcases hc with rfl | rfl | rfl | rfl | rfl
  all_goals first | exact Nat.le_refl _ | exact Nat.le_add_right _ _
 exact I1.fpOk hge (I1.hok.fresh hge)
noncomputable def zsw (sc:Scope) (N loc free:List Str) (fr:List Nat) (scope:Scope):Bool:=
 decide (scope.kind= .function) && scope.names.all (fun y=>decide (y.2≠ .cell)) && scope.names.all (fun y=>decide (y.2≠ .local) || decide (scope.names.lookup y.1=some .local)) &&
 scope.names.all (fun y=>decide (y.2≠ .free) || (decide (sc.names.lookup y.1=some .cell) || decide (sc.names.lookup y.1=some .free))) && decide (fr.length=free.length) &&
 (List.range fr.length).all fun i=>match fr[i]?,free[i]? with
  | some j,some x=>decide (N[j]? =some x) && decide (scope.names.lookup x=some .free)
  | _,_=>true
theorem zay {X:Cx} {sc:Scope} {N loc free:List Str} {fr:List Nat} {scope:Scope} (e1:X.env.scope=sc) (e2:X.N=N) (h:zsw sc N loc free fr scope=true):CompScope X loc free fr scope:=by
 unfold zsw at h
 simp only [Bool.and_eq_true,List.all_eq_true,Bool.or_eq_true,decide_eq_true_eq] at h
 obtain ⟨⟨⟨⟨⟨h1,h2⟩,h3⟩,h4⟩,h5⟩,h6⟩:=h
 refine ⟨h1,fun y hy=>h2 y hy,fun y hy hl=>(h3 y hy).elim (fun z=>absurd hl z) id,fun y hy hf=>?_,fun i j x a b=>?_,h5⟩
 ·show X.env.scope.names.lookup y.1=some .cell∨X.env.scope.names.lookup y.1=some .free
  rw [e1]
  exact (h4 y hy).elim (fun z=>absurd hf z) id
 ·have hi:i < fr.length:=(List.getElem?_eq_some_iff.mp a).1
  have:=h6 i (List.mem_range.mpr hi)
  rw [a,b] at this
  simp only [Bool.and_eq_true,decide_eq_true_eq] at this
  rw [e2]
  exact this
theorem qL {X:Cx} {x:Str} {pos:Pos} (i:Nat) (N:List Str) (nd:N.Nodup) (eN:X.N=N) (hi:N[i]? =some x) (hx:Loc X.env.scope x) (hl:X.env.scope.names.lookup x=some .local):PG X (.Name x pos) (zpt i):=
 zW (eN ▸ nd) (by rw [eN];exact hi) hx (.inr hl)
structure Dfn (K:PySem.W.Frag) (mg:Str→Option Value) (x:Str) (st:Stmt) (ps:List Str) (f:Addr) (fd:FuncData):Prop where
 F:Fun K x x st f fd
 b:Binds K fd ps []
 g:mg x=some (.ref f)
structure DfnM (K:PySem.W.Frag) (x qual:Str) (st:Stmt) (ps:List Str) (f:Addr) (fd:FuncData):Prop where
 F:Fun K x qual st f fd
 b:Binds K fd ps []
section
variable {X:Cx} {K:PySem.W.Frag}
theorem pgT {pos:Pos} {es:List Expr} {k:Nat} {t:jb} (n:Nat) (hK:X.K=K) (hc:X.calm=true) (h:qN X es t) (hn:(assignEach es X.env).length=n:=by rfl) (hst:(assignEach es X.env).findIdx? (·.1)=none:=by rfl):PG X (.Tuple es k pos) (gTup K n t):=by
 subst hK;exact qH hc h hn hst
end
end L2
namespace L2
open PySem PySem.Spec PyProof.Rows
section
variable {X:Cx} {pos:Pos}
end
section
variable {P:Program} {w:World} {h h':Heap}
def yq (P:Program) (w:World) (h:Heap):MK→Value→Prop
 | .one k,u=>(yy P w).is k u=true
 | .tup ks,u=> ∃b,u= .ref b∧IsTupleKey (yy P w) h ks b
theorem zkx {k:zq} {u:Value} (q:yq P w h (.one k) u):carriedByValue u=true:=(yy P w).byValue k u q
theorem zsa: ∀{x y:MK} {u:Value},yq P w h x u→yq P w h y u→x=y
 | .one a,.one b,_,p,q=>by rw [(yy P w).inj _ _ _ p q]
 | .tup a,.tup b,_,⟨c,e,p⟩,⟨d,e',q⟩=>by subst e;cases e';rw [p.inj q]
 | .one a,.tup b,_,p,⟨c,e,_⟩=>by subst e;have:=zkx (h:=h) p;cases this
 | .tup a,.one b,_,⟨c,e,_⟩,p=>by subst e;have:=zkx (h:=h) p;cases this
theorem zit {d:Addr} {o:Obj} {es ep} (ho:h.get? d=some o) (hd:o.data= .dict es ep) (hs:Heap.SameBut d h h'): ∀{k:MK} {u:Value},yq P w h k u→yq P w h' k u
 | .one _,_,q=>q
 | .tup _,_,⟨b,e,q⟩=>⟨b,e,q.keeps ho hd hs⟩
end
section
variable {P:Program} {w:World} {A:Around} {E:Value→Shared→Prop} {s:Shared}
theorem zno {u:Value} {Q:Int→Shared→Prop} (hu:A.units < cLine): ∀{k:MK},yq P w s.heap k u→(∀t,Q (k.hash P w) {s with toks:=t})→wpAny (model P w) A (pyHash u) Q E s
 | .one k,q,f=>(yy P w).pyHash q (f _)
 | .tup ks,⟨b,e,q⟩,f=>by subst e;exact wpAny_pyHash_tuple hu q (f _)
theorem zsy {ks:List zq} {b:Addr} (q:IsTupleKey (yy P w) s.heap ks b): ∃its,s.heap.IsTuple b its:=by
 obtain ⟨o,its,n,h1,h2,h3,_⟩:=q
 exact ⟨its,o,h1,h2,n,h3⟩
theorem zyf {u v:Value} {Q:Bool→Shared→Prop} (hu:A.units < cLine): ∀{x y:MK},yq P w s.heap x u→yq P w s.heap y v→Q (decide (x=y)) s→wpAny (model P w) A (eqBool u v) Q E s
 | .one a,.one b,p,q,f=>(yy P w).eqBool p q (by rw [show decide (a=b)=decide (MK.one a=MK.one b) by simp];exact f)
 | .tup a,.tup b,⟨c,e,p⟩,⟨d,e',q⟩,f=>by
  subst e e'
  exact wpAny_eqBool_tuple hu p q (by rw [show decide (a=b)=decide (MK.tup a=MK.tup b) by simp];exact f)
 | .one a,.tup b,p,⟨c,e,q⟩,f=>by
  subst e
  obtain ⟨its,q⟩:=zsy q
  have f:Q false s:=by simpa using f
  rcases qR (show zh5 a u=true from p) with ⟨i,t,rfl,rfl⟩ | ⟨i,t,rfl,rfl⟩
  ·exact SeqAt.EqAt.int_tuple i t q hu _ _ _ _ f
  ·exact SeqAt.EqAt.str_tuple i t q hu _ _ _ _ f
 | .tup a,.one b,⟨c,e,q⟩,p,f=>by
  subst e
  obtain ⟨its,q⟩:=zsy q
  have f:Q false s:=by simpa using f
  rcases qR (show zh5 b v=true from p) with ⟨i,t,rfl,rfl⟩ | ⟨i,t,rfl,rfl⟩
  ·exact SeqAt.EqAt.tuple_int i t q hu _ _ _ _ f
  ·exact SeqAt.EqAt.tuple_str i t q hu _ _ _ _ f
theorem zmm {u:Value} {Q:Bool→Shared→Prop}: ∀{k:MK},yq P w s.heap k u→Q true s→wpAny (model P w) A (eqIsQuiet 8 u) Q E s
 | .one k,q,f=>by rw [eqIsQuiet_byValue 8 (zkx (h:=s.heap) q)];exact wpAny_pure f
 | .tup ks,⟨b,e,q⟩,f=>by subst e;exact wpAny_eqIsQuiet_tuple q f
theorem zrx {u:Value} {k:MK} {st:List Value} {Q:Bool→Shared→Prop} (q:yq P w s.heap k u) (hst: ∀v∈st,∃k',yq P w s.heap k' v) (f:Q false s):wpAny (model P w) A (tableMayTell u st) Q E s:=by
 unfold tableMayTell
 split
 ·exact wpAny_pure f
 ·refine wpAny_bind (zmm q ?_)
  simp only [Bool.not_true,Bool.false_eq_true,if_false]
  refine wpAny_bind ?_
  refine wpAny_forIn_list _ (fun rest r t=>t=s∧r=(none,())∧∀v∈rest,∃k',yq P w s.heap k' v) _ ?_ ?_ _ _ ⟨rfl,rfl,hst⟩
  ·rintro x rest r t ⟨rfl,rfl,hr⟩
   obtain ⟨k',hb⟩:=hr x List.mem_cons_self
   refine wpAny_bind (zmm hb ?_)
   simp only [Bool.not_true,Bool.false_eq_true,if_false]
   exact wpAny_pure ⟨rfl,rfl,fun v hv=>hr v (List.mem_cons_of_mem _ hv)⟩
  ·rintro r t ⟨rfl,rfl,_⟩
   exact wpAny_pure f
end
abbrev Tr:=List (MK×Value×Value)
noncomputable def zQ (xs:Tr) (k:MK):Option Value:=(xs.find? fun x=>decide (x.1=k)).map (·.2.2)
def zj2 (xs:Tr) (k:MK) (u v:Value):Tr:=if (zQ xs k).isSome then xs.map fun x=>if x.1=k then (x.1,x.2.1,v) else x else xs++[(k,u,v)]
def DictM (P:Program) (w:World) (h:Heap) (d:Addr) (xs:Tr):Prop:=
 ∃o es ep,h.get? d=some o∧o.ExactDict∧o.data= .dict es ep∧es.toList=xs.map (yw P w)∧((xs.map (·.1)).Nodup∧ep=xs.length)∧∀x∈xs,yq P w h x.1 x.2.1
theorem zoe {xs:Tr} (hn:(xs.map (·.1)).Nodup) {i j:Nat} {k:MK} {p q:Value×Value} (hi:xs[i]? =some (k,p)) (hj:xs[j]? =some (k,q)):i=j:=by
 have a:(xs.map (·.1))[i]? =some k:=by rw [List.getElem?_map,hi];rfl
 have b:(xs.map (·.1))[j]? =some k:=by rw [List.getElem?_map,hj];rfl
 exact (List.getElem?_inj (List.getElem?_eq_some_iff.mp a).1 hn).mp (a.trans b.symm)
theorem zjl {xs:Tr} (hn:(xs.map (·.1)).Nodup) {i:Nat} {k:MK} {p:Value×Value} (hi:xs[i]? =some (k,p)):zQ xs k=some p.2:=by
 unfold zQ
 cases e:xs.find? (fun x=>decide (x.1=k)) with
 | none=>have:=List.find?_eq_none.mp e _ (List.mem_of_getElem? hi);simp at this
 | some y=>
  have hk:=List.find?_some e
  have hk:y.1=k:=by simpa using hk
  obtain ⟨j,hj⟩:=List.mem_iff_getElem?.mp (List.mem_of_find?_eq_some e)
  obtain ⟨y1,y2⟩:=y
  have hk:y1=k:=hk
  subst hk
  have:=zoe hn hi hj
  subst this
  rw [hi] at hj
  cases hj
  rfl
theorem zjc {xs:Tr} {k:MK} (hi: ∀(i:Nat) (p:Value×Value),xs[i]? ≠some (k,p)):zQ xs k=none:=by
 unfold zQ
 cases e:xs.find? (fun x=>decide (x.1=k)) with
 | none=>rfl
 | some y=>
  have hk:=List.find?_some e
  have hk:y.1=k:=by simpa using hk
  obtain ⟨j,hj⟩:=List.mem_iff_getElem?.mp (List.mem_of_find?_eq_some e)
  obtain ⟨y1,y2⟩:=y
  have hk:y1=k:=hk
  subst hk
  exact absurd hj (hi j y2)
section
variable {P:Program} {w:World} {A:Around} {E:Value→Shared→Prop} {s:Shared} {d:Addr} {o:Obj} {es:Array DictEntry} {ep:Nat} {xs:Tr} {k:MK} {u:Value}
theorem zl9 (he:es.toList=xs.map (yw P w)) (j:Nat):es[j]? =(xs[j]?).map (yw P w):=by rw [←Array.getElem?_toList,he,List.getElem?_map]
theorem ze7 (he:es.toList=xs.map (yw P w)):es.size=xs.length:=by rw [←Array.length_toList,he,List.length_map]
theorem mem_places {n:Nat} {f:Nat→Option Int} {c:Int} {i:Nat}:i∈placesWithHash n f c↔i < n∧f i=some c:=by
 unfold placesWithHash
 rw [List.mem_filter,List.mem_range]
 simp
theorem zon {n:Nat} {f:Nat→Option Int} {c:Int}:(placesWithHash n f c).Nodup:=List.Pairwise.filter _ List.nodup_range
theorem zsg {Q:Option Nat→Shared→Prop} (hu:A.units < cLine) (hk:yq P w s.heap k u) (ho:s.heap.get? d=some o) (hd:o.data= .dict es ep) (he:es.toList=xs.map (yw P w)) (hn:(xs.map (·.1)).Nodup) (hx: ∀x∈xs,yq P w s.heap x.1 x.2.1)
  (h0:(∀(j:Nat) (p:Value×Value),xs[j]? ≠some (k,p))→Q none s) (h1: ∀(j:Nat) (p:Value×Value),xs[j]? =some (k,p)→Q (some j) s):
  wpAny (model P w) A (dictFind d u (k.hash P w)) Q E s:=by
 have at_: ∀i,i < es.size→∃k' u' v',xs[i]? =some (k',u',v')∧es[i]? =some ⟨k'.hash P w,u',v'⟩∧yq P w s.heap k' u':=fun i hi=>by
  have hi':i < xs.length:=by rw [←ze7 he];exact hi
  refine ⟨xs[i].1,xs[i].2.1,xs[i].2.2,by rw [zy hi'],?_,hx _ (List.getElem_mem hi')⟩
  rw [zl9 he,zy hi']
  rfl
 have pl: ∀(j:Nat) (p:Value×Value),xs[j]? =some (k,p)→j∈placesWithHash es.size (fun i=>es[i]?.map (·.hash)) (k.hash P w):=fun j p hj=>by
  refine mem_places.mpr ⟨by rw [ze7 he];exact (List.getElem?_eq_some_iff.mp hj).1,?_⟩
  rw [zl9 he,hj]
  rfl
 have hst: ∀v∈(placesWithHash es.size (fun i=>es[i]?.map (·.hash)) (k.hash P w)).filterMap (fun i=>es[i]?.map (·.key)),∃k',yq P w s.heap k' v:=fun v hv=>by
  obtain ⟨i,hi,e⟩:=List.mem_filterMap.mp hv
  obtain ⟨k',u',v',_,e2,e3⟩:=at_ i (mem_places.mp hi).1
  rw [e2] at e
  cases e
  exact ⟨k',e3⟩
 by_cases flat:(∀x∈xs,∃k',x.1= .one k')∧∃k',k= .one k'
 ·
  obtain ⟨fl,k',rfl⟩:=flat
  have hks:KeysOf (yy P w) es:=fun e hin=>by
   obtain ⟨i,hi,e1⟩:=Array.mem_iff_getElem.mp hin
   obtain ⟨k2,u2,v2,e2,e3,e4⟩:=at_ i hi
   obtain ⟨k3,e5⟩:=fl _ (List.mem_of_getElem? e2)
   have e5:k2= .one k3:=e5
   subst e5
   rw [Array.getElem?_eq_getElem hi,e1] at e3
   cases e3
   exact ⟨k3,e4,rfl⟩
  refine wpAny_dictFind_of (knd:=yy P w) (k:=k') hk ho hd hks ?_
  cases e:es.findIdx? (fun e=>(yy P w).is k' e.key) with
  | none=>
   refine h0 fun j p hj=>?_
   have hj':j < es.size:=by rw [ze7 he];exact (List.getElem?_eq_some_iff.mp hj).1
   have:=Array.findIdx?_eq_none_iff.mp e (es[j]) (Array.getElem_mem hj')
   have e6:=zl9 he j
   rw [hj,Array.getElem?_eq_getElem hj'] at e6
   rw [Option.some.inj e6] at this
   have q:=hx _ (List.mem_of_getElem? hj)
   have q:(yy P w).is k' p.1=true:=q
   have this:(yy P w).is k' p.1=false:=by simpa [yw] using this
   rw [q] at this
   cases this
  | some j=>
   obtain ⟨hj,e7,_⟩:=Array.findIdx?_eq_some_iff_getElem.mp e
   obtain ⟨k2,u2,v2,e2,e3,e4⟩:=at_ j hj
   rw [Array.getElem?_eq_getElem hj] at e3
   rw [Option.some.inj e3] at e7
   have e8:yq P w s.heap (.one k') u2:=e7
   have:=zsa e4 e8
   subst this
   exact h1 j _ e2
 ·unfold dictFind
  refine wpAny_holding (wpAny_bind (wpAny_dictEntries ho hd ?_))
  dsimp only
  have notStrs: ∀x t,u= .str x t→¬(es.all fun e=>isExactStrKey e.key)=true:=fun x t eu hall=>by
   subst eu
   refine flat ⟨fun y hy=>?_,?_⟩
   ·obtain ⟨i,hi⟩:=List.mem_iff_getElem?.mp hy
    have hi':i < es.size:=by rw [ze7 he];exact (List.getElem?_eq_some_iff.mp hi).1
    obtain ⟨k2,u2,v2,e2,e3,e4⟩:=at_ i hi'
    rw [hi] at e2
    cases e2
    cases k2 with
    | one k3=>exact ⟨k3,rfl⟩
    | tup ks=>
     obtain ⟨b,rfl,_⟩:=e4
     rw [←Array.all_toList,List.all_eq_true] at hall
     have:=hall _ (Array.mem_toList_iff.mpr (Array.mem_of_getElem? e3))
     cases this
   ·cases k with
    | one k3=>exact ⟨k3,rfl⟩
    | tup ks=>obtain ⟨b,e,_⟩:=hk;cases e
  have plain:wpAny (model P w) A (dictWalkPlain d u (k.hash P w) es (placesWithHash es.size (fun i=>es[i]?.map (·.hash)) (k.hash P w))) Q E s:=by
   unfold dictWalkPlain
   refine wpAny_bind ?_
   refine wpAny_forIn_list _ (fun rest b t=>t=s∧b=(none,())∧∃dn,placesWithHash es.size (fun i=>es[i]?.map (·.hash)) (k.hash P w)=dn++rest∧∀j∈dn,∀p,xs[j]? ≠some (k,p)) _ ?_ ?_ _ _ ⟨rfl,rfl,[],rfl,fun j hj=>nomatch hj⟩
   ·rintro x rest b t ⟨rfl,rfl,dn,e,hdn⟩
    have hx':x∈placesWithHash es.size (fun i=>es[i]?.map (·.hash)) (k.hash P w):=by rw [e];simp
    obtain ⟨a1,a2⟩:=mem_places.mp hx'
    obtain ⟨k2,u2,v2,e2,e3,e4⟩:=at_ x a1
    rw [e3] at a2
    have a2:k2.hash P w=k.hash P w:=Option.some.inj a2
    rw [e3]
    dsimp only
    rw [if_pos (by simpa using a2)]
    refine wpAny_bind (wpAny_dictEpoch ho hd (wpAny_bind (zyf hu e4 hk (wpAny_bind (wpAny_dictEpoch ho hd ?_)))))
    rw [if_neg (by simp)]
    by_cases hkk:k2=k
    ·rw [decide_eq_true hkk]
     subst hkk
     simp only [if_true]
     exact wpAny_bind (wpAny_rule (wpAny_pure (wpAny_pure (h1 x _ e2))))
    ·rw [decide_eq_false hkk]
     simp only [Bool.false_eq_true,if_false]
     refine wpAny_bind (wpAny_rule (wpAny_pure ⟨rfl,rfl,dn++[x],by rw [e];simp,fun j hj p=>?_⟩))
     rcases List.mem_append.mp hj with hj | hj
     ·exact hdn j hj p
     ·rw [List.mem_singleton.mp hj,e2]
      intro z
      cases z
      exact hkk rfl
   ·rintro b t ⟨rfl,rfl,dn,e,hdn⟩
    rw [List.append_nil] at e
    exact wpAny_pure (h0 fun j p hj=>hdn j (by rw [←e];exact pl j p hj) p hj)
  have hany: ∀b,u= .ref b→¬(es.any fun e=>e.key==u && e.hash !=k.hash P w)=true:=fun b eb hq=>by
   rw [←Array.any_toList,List.any_eq_true] at hq
   obtain ⟨e,hin,hc⟩:=hq
   obtain ⟨i,hi,e1⟩:=Array.mem_iff_getElem.mp (Array.mem_toList_iff.mp hin)
   obtain ⟨k2,u2,v2,e2,e3,e4⟩:=at_ i hi
   rw [Array.getElem?_eq_getElem hi,e1] at e3
   cases e3
   simp only [Bool.and_eq_true,beq_iff_eq,bne_iff_ne,ne_eq] at hc
   obtain ⟨c1,c2⟩:=hc
   subst c1
   exact c2 (by rw [zsa e4 hk])
  have hcase:(∃i t,u= .int i t)∨(∃x t,u= .str x t)∨∃b,u= .ref b:=by
   cases k with
   | one k3=>
    rcases qR (show zh5 k3 u=true from hk) with ⟨i,t,rfl,rfl⟩ | ⟨i,t,rfl,rfl⟩
    ·exact .inl ⟨_,_,rfl⟩
    ·exact .inr (.inl ⟨_,_,rfl⟩)
   | tup ks=>obtain ⟨b,rfl,_⟩:=hk;exact .inr (.inr ⟨b,rfl⟩)
  rcases hcase with ⟨i,t,eu⟩ | ⟨i,t,eu⟩ | ⟨b,eu⟩ <;> subst eu <;> dsimp only
  case' inr.inl=>rw [if_neg (notStrs _ _ rfl)]
  case' inr.inr=>skip
  all_goals refine wpAny_ite_split (fun _=>plain) fun _=>?_
  case' inr.inr=>refine wpAny_ite_split (fun z=>absurd z (hany _ rfl)) fun _=>?_
  all_goals refine wpAny_ite_split (fun _=>?_) fun _=>?_
  all_goals (
    (first | refine wpAny_bind (wpAny_pure ?_) | refine wpAny_bind (zrx hk hst ?_))
    rw [if_neg (by simp)]
    refine wpAny_bind ?_
    refine wpAny_forIn_list _ (fun rest b t=>t=s∧∃hit,b=(none,hit)∧∃dn,placesWithHash es.size (fun i=>es[i]?.map (·.hash)) (k.hash P w)=dn++rest∧
     ((hit=none∧∀j∈dn,∀p,xs[j]? ≠some (k,p))∨∃j p,hit=some j∧j∈dn∧xs[j]? =some (k,p))) _ ?_ ?_ _ _ ⟨rfl,none,rfl,[],rfl,.inl ⟨rfl,fun j hj=>nomatch hj⟩⟩
    ·rintro x rest b t ⟨rfl,hit,rfl,dn,e,hH⟩
     have hx':x∈placesWithHash es.size (fun i=>es[i]?.map (·.hash)) (k.hash P w):=by rw [e];simp
     obtain ⟨a1,a2⟩:=mem_places.mp hx'
     obtain ⟨k2,u2,v2,e2,e3,e4⟩:=at_ x a1
     rw [e3] at a2
     have a2:k2.hash P w=k.hash P w:=Option.some.inj a2
     have hnd:= @zon es.size (fun i=>es[i]?.map (·.hash)) (k.hash P w)
     rw [e] at hnd
     rw [e3]
     dsimp only
     rw [if_pos (by simpa using a2)]
     refine wpAny_bind (wpAny_dictEpoch ho hd (wpAny_bind (zyf hu e4 hk (wpAny_bind (wpAny_dictEpoch ho hd ?_)))))
     rw [if_neg (by simp)]
     by_cases hkk:k2=k
     ·rw [decide_eq_true hkk]
      subst hkk
      rcases hH with ⟨rfl,_⟩ | ⟨j,p,_,hj,hjx⟩
      ·rw [if_pos rfl]
       refine wpAny_ite_split (fun hz=>absurd hz (by simp)) fun _=>?_
       refine wpAny_bind (wpAny_rule ?_)
       split
       ·exact wpAny_pure (wpAny_pure (h1 x _ e2))
       ·exact wpAny_pure ⟨rfl,some x,rfl,dn++[x],by rw [e];simp,.inr ⟨x,_,rfl,by simp,e2⟩⟩
      ·have z:=zoe hn hjx e2
       subst z
       exact absurd hnd (by rw [List.nodup_append];intro z;exact z.2.2 j hj j List.mem_cons_self rfl)
     ·rw [decide_eq_false hkk]
      rw [if_neg (by simp)]
      refine wpAny_bind (wpAny_rule ?_)
      rw [if_neg (by simp)]
      refine wpAny_pure ⟨rfl,hit,rfl,dn++[x],by rw [e];simp,?_⟩
      rcases hH with ⟨hz,hno⟩ | ⟨j,p,hz,hj,hjx⟩
      ·refine .inl ⟨hz,fun j hj p=>?_⟩
       rcases List.mem_append.mp hj with hj | hj
       ·exact hno j hj p
       ·rw [List.mem_singleton.mp hj,e2]
        intro z
        cases z
        exact hkk rfl
      ·exact .inr ⟨j,p,hz,List.mem_append_left _ hj,hjx⟩
    ·rintro b t ⟨rfl,hit,rfl,dn,e,hH⟩
     rw [List.append_nil] at e
     rcases hH with ⟨rfl,hno⟩ | ⟨j,p,rfl,_,hjx⟩
     ·exact wpAny_pure (h0 fun j p hj=>hno j (by rw [←e];exact pl j p hj) p hj)
     ·exact wpAny_pure (h1 j p hjx))
theorem zr8 {Q:Option Value→Shared→Prop} (hu:A.units < cLine) (hk:yq P w s.heap k u) (hm:DictM P w s.heap d xs) (f: ∀t,Q (zQ xs k) {s with toks:=t}):wpAny (model P w) A (dictGet d u) Q E s:=by
 obtain ⟨o,es,ep,ho,_,hd,he,⟨hn,_⟩,hx⟩:=hm
 unfold dictGet
 refine wpAny_holding (wpAny_bind (zno hu hk fun t=>wpAny_bind (zsg (s:={s with toks:=t}) hu hk ho hd he hn hx (fun hz=>?_) fun j p hj=>?_)))
 ·have f:=f t
  rw [zjc hz] at f
  exact wpAny_pure f
 ·have f:=f t
  rw [zjl hn hj] at f
  refine wpAny_bind (wpAny_dictEntries (s:={s with toks:=t}) ho hd ?_)
  rw [zl9 he j,hj]
  exact wpAny_pure f
theorem zjq {k:MK} {v:Value}: ∀{xs:Tr} {j:Nat} {p:Value×Value},(xs.map (·.1)).Nodup→xs[j]? =some (k,p)→(xs.map (yw P w)).modify j (fun e=>{e with val:=v})=(xs.map fun x=>if x.1=k then (x.1,x.2.1,v) else x).map (yw P w)
 | [],_,_,_,hj=>by simp at hj
 | x::r,0,p,hn,hj=>by
  simp only [List.getElem?_cons_zero,Option.some.injEq] at hj
  subst hj
  have hn:(k∉r.map (·.1))∧(r.map (·.1)).Nodup:=by simpa using hn
  have e:(r.map fun x=>if x.1=k then (x.1,x.2.1,v) else x)=r:=by
   conv=>rhs;rw [←List.map_id r]
   refine List.map_congr_left fun y hy=>?_
   rw [if_neg (fun z=>hn.1 (List.mem_map.mpr ⟨y,hy,z⟩))]
   rfl
  simp [e,yw]
 | x::r,j+1,p,hn,hj=>by
  simp only [List.getElem?_cons_succ] at hj
  have hn:(x.1∉r.map (·.1))∧(r.map (·.1)).Nodup:=by rw [List.map_cons,List.nodup_cons] at hn;exact hn
  have ne: ¬x.1=k:=fun z=>hn.1 (List.mem_map.mpr ⟨(k,p),List.mem_of_getElem? hj,z.symm⟩)
  simp only [List.map_cons,List.modify_succ_cons,if_neg ne,zjq hn.2 hj]
theorem zza {v:Value} {Q:Unit→Shared→Prop} (hu:A.units < cLine) (hk:yq P w s.heap k u) (hm:DictM P w s.heap d xs) (hz:xs.length≤sizeLine)
  (f: ∀h' t,DictM P w h' d (zj2 xs k u v)→Heap.SameBut d s.heap h'→Q () {s with heap:=h',toks:=t}):wpAny (model P w) A (dictSet d u v) Q E s:=by
 obtain ⟨o,es,ep,ho,hc,hd,he,⟨hn,hep⟩,hx⟩:=hm
 unfold dictSet
 refine wpAny_holding (wpAny_bind (zno hu hk fun t=>?_))
 unfold dictSetHashed
 refine wpAny_holding (wpAny_bind (zsg (s:={s with toks:=t}) hu hk ho hd he hn hx (fun hz'=>?_) fun j p hj=>?_))
 ·have e0:zj2 xs k u v=xs++[(k,u,v)]:=by unfold zj2;rw [zjc hz'];rfl
  have f:=fun h'=>f h' t
  rw [e0] at f
  refine wpAny_bind (wpAny_rule (wpAny_updateDictKeys (hz:=by have:=ze7 he;omega) (s:={s with toks:=t}) ho hd (f _ ⟨_,_,ep+1,Heap.get?_update_self _ ho (Obj.isFreed_of_dict (Obj.data_mapDictKeys hd _)),hc.mapDictKeys _,Obj.data_mapDictKeys hd _,?_,?_,?_⟩ (Heap.SameBut.update ..))))
  ·simp [he,yw]
  ·refine ⟨?_,by rw [List.length_append,hep];rfl⟩
   rw [List.map_append,List.nodup_append]
   refine ⟨hn,by simp,fun x hx y hy=>?_⟩
   have hy:y=k:=by simpa using hy
   subst hy
   intro z
   subst z
   obtain ⟨q,hq,e⟩:=List.mem_map.mp hx
   obtain ⟨i,hi⟩:=List.mem_iff_getElem?.mp hq
   obtain ⟨q1,q2⟩:=q
   have e:q1=x:=e
   subst e
   exact hz' i q2 hi
  ·intro x hx'
   rcases List.mem_append.mp hx' with hx' | hx'
   ·exact zit ho hd (Heap.SameBut.update ..) (hx x hx')
   ·rw [List.mem_singleton.mp hx']
    exact zit ho hd (Heap.SameBut.update ..) hk
 ·have e0:zj2 xs k u v=xs.map fun x=>if x.1=k then (x.1,x.2.1,v) else x:=by unfold zj2;rw [zjl hn hj];rfl
  have f:=fun h'=>f h' t
  rw [e0] at f
  refine wpAny_bind (wpAny_rule (wpAny_bind (wpAny_updateDict (s:={s with toks:=t}) ho hd (wpAny_point (f _ ⟨_,_,ep,Heap.get?_update_self _ ho (Obj.isFreed_of_dict (Obj.data_mapDict hd _)),hc.mapDict _,Obj.data_mapDict hd _,?_,?_,?_⟩ (Heap.SameBut.update ..))))))
  ·have q:=zjq (P:=P) (w:=w) (v:=v) hn hj
   rw [←he] at q
   obtain ⟨l⟩:=es
   simpa using q
  ·have e1:(xs.map fun x=>if x.1=k then (x.1,x.2.1,v) else x).map (·.1)=xs.map (·.1):=by
    rw [List.map_map]
    refine List.map_congr_left fun y _=>?_
    simp only [Function.comp]
    split <;> rfl
   rw [e1]
   exact ⟨hn,by rw [List.length_map];exact hep⟩
  ·intro x hx'
   obtain ⟨y,hy,rfl⟩:=List.mem_map.mp hx'
   split <;> exact zit ho hd (Heap.SameBut.update ..) (hx y hy)
theorem DictM.typeIs (hm:DictM P w s.heap d xs):s.TypeIs (.ref d) "dict" :=let ⟨o,_,_,ho,hc,_⟩:=hm;⟨o,ho,hc.1⟩
theorem zzd {Q:Bool→Shared→Prop} (hu:A.units+1 < cLine) (hk:yq P w s.heap k u) (lo:(d==sysModules)=false) (hm:DictM P w s.heap d xs) (f: ∀t,Q (zQ xs k).isSome {s with toks:=t}):
  wpAny (model P w) A (contains (.ref d) u) Q E s:=by
 have hT:=hm.typeIs
 unfold contains
 refine wpAny_holding (wpAny_bind (wpAny_specialOf hT slot_dict_contains.lookup ?_))
 refine wpAny_ite_split (fun z=>absurd z (by rw [beq_builtin_none];exact Bool.false_ne_true)) fun _=>?_
 refine wpAny_bind (wpAny_callSpecialUnlessNone?_slot (name:=Str.ofString "__contains__") hT slot_dict_contains (wpAny_call_entry slot_dict_contains hT entry_dict_contains ?_ (args_dict_contains _ _)))
 show wpAny _ _ (dictGet d u >>=_) _ _ s
 refine wpAny_bind (zr8 (A:=A.in1) hu hk hm fun t=>?_)
 have f:=f t
 cases hf:zQ xs k with
 | some v=>
  rw [hf] at f
  show wpAny _ _ (ret (.bool true)) _ _ _
  exact wpAny_pure ⟨_,rfl,wpAny_truthy_bool f⟩
 | none=>
  rw [hf] at f
  show wpAny _ _ (Builtin.Dict.pendingKey? d u >>=_) _ _ _
  exact wpAny_bind (wpAny_pendingKey_other lo (wpAny_pure ⟨_,rfl,wpAny_truthy_bool f⟩))
theorem m_in {Q:Value→Shared→Prop} (hu:A.units+1 < cLine) (hk:yq P w s.heap k u) (lo:(d==sysModules)=false) (hm:DictM P w s.heap d xs) (f: ∀t,Q (.bool (zQ xs k).isSome) {s with toks:=t}):
  wpAny (model P w) A (compareOp .In u (.ref d)) Q E s:=by
 show wpAny _ _ (do return .bool (←contains (.ref d) u)) Q E s
 exact wpAny_bind (zzd hu hk lo hm fun t=>wpAny_pure (f t))
theorem zv4 {v:Value} {Q:Value→Shared→Prop} (hu:A.units+1 < cLine) (hk:yq P w s.heap k u) (hm:DictM P w s.heap d xs) (hv:zQ xs k=some v) (f: ∀t,Q v {s with toks:=t}):wpAny (model P w) A (getItem (.ref d) u) Q E s:=by
 have hT:=hm.typeIs
 unfold getItem
 refine wpAny_holding (wpAny_bind (wpAny_sequenceKey hT (by decide) ?_))
 refine wpAny_bind (wpAny_callSpecial?_slot (name:=Str.ofString "__getitem__") hT slot_dict_getitem (wpAny_call_entry slot_dict_getitem hT entry_dict_getitem ?_ (args_dict_getitem _ _)))
 show wpAny _ _ (dictGet d u >>=_) _ _ s
 refine wpAny_bind (zr8 (A:=A.in1) hu hk hm fun t=>?_)
 rw [hv]
 exact wpAny_pure ⟨v,rfl,wpAny_pure (f t)⟩
theorem zn3 {v:Value} {Q:Unit→Shared→Prop} (hu:A.units+1 < cLine) (hk:yq P w s.heap k u) (hm:DictM P w s.heap d xs) (hz:xs.length≤sizeLine)
  (f: ∀h' t,DictM P w h' d (zj2 xs k u v)→Heap.SameBut d s.heap h'→Q () {s with heap:=h',toks:=t}):wpAny (model P w) A (setItem (.ref d) u v) Q E s:=by
 have hT:=hm.typeIs
 unfold setItem
 refine wpAny_holding (wpAny_bind (wpAny_sequenceKey hT (by decide) ?_))
 refine wpAny_bind (wpAny_callSpecial?_slot (name:=Str.ofString "__setitem__") hT slot_dict_setitem (wpAny_call_entry slot_dict_setitem hT entry_dict_setitem ?_ (args_dict_setitem _ _ _)))
 show wpAny _ _ (Builtin.Dict.notOrdered "__setitem__" ⟨[.ref d,u,v],[]⟩ >>=_) _ _ s
 refine wpAny_bind (wpAny_notOrdered_dict hT ?_)
 show wpAny _ _ (dictSet d u v >>=_) _ _ s
 exact wpAny_bind (zza (A:=A.in1) hu hk hm hz fun h' t a b=>wpAny_pure ⟨.none,rfl,wpAny_pure (f h' t a b)⟩)
theorem zrr (lo:(d==sysModules)=false):MeetsIn P w (Builtin.«dict.get» ⟨[.ref d,u],[]⟩) (fun A R s=>A.in1.units < cLine∧∃k xs,yq P w s.heap k u∧DictM P w s.heap d xs∧∀t,R (.ok (.ret ((zQ xs k).getD .none))) {s with toks:=t}):=
 .of_wp fun A R s ⟨hu,k,xs,hk,hm,f⟩=>by
  show wpAny _ _ (dictGet d u >>=_) _ _ s;refine wpAny_bind (zr8 hu hk hm fun t=>?_)
  have f:=f t
  cases hf:zQ xs k with
  | some v=>rw [hf] at f;exact wpAny_pure ⟨v,rfl,f⟩
  | none=>rw [hf] at f;exact wpAny_bind (wpAny_missed_other lo (wpAny_pure ⟨_,rfl,f⟩))
theorem zrb (lo:(d==sysModules)=false) (z:Value):MeetsIn P w (Builtin.«dict.get» ⟨[.ref d,u,z],[]⟩) (fun A R s=>A.in1.units < cLine∧∃k xs,yq P w s.heap k u∧DictM P w s.heap d xs∧∀t,R (.ok (.ret ((zQ xs k).getD z))) {s with toks:=t}):=
 .of_wp fun A R s ⟨hu,k,xs,hk,hm,f⟩=>by
  show wpAny _ _ (dictGet d u >>=_) _ _ s;refine wpAny_bind (zr8 hu hk hm fun t=>?_)
  have f:=f t
  cases hf:zQ xs k with
  | some v=>rw [hf] at f;exact wpAny_pure ⟨v,rfl,f⟩
  | none=>rw [hf] at f;exact wpAny_bind (wpAny_missed_other lo (wpAny_pure ⟨_,rfl,f⟩))
end
section
variable {κ:Type} [DecidableEq κ]
noncomputable def zX (kvs:List (κ×V)) (k:κ):Option V:=(kvs.find? fun kv=>decide (kv.1=k)).map (·.2)
noncomputable def yb (kvs:List (κ×V)) (k:κ) (v:V):List (κ×V):=
 if (kvs.any fun kv=>decide (kv.1=k))=true then kvs.map (fun kv=>if kv.1=k then (kv.1,v) else kv) else kvs++[(k,v)]
theorem zi3 {p:κ×V} {r:List (κ×V)} {k:κ} (e:p.1=k):zX (p::r) k=some p.2:=by simp [zX,List.find?_cons,e]
theorem ziq {p:κ×V} {r:List (κ×V)} {k:κ} (e: ¬p.1=k):zX (p::r) k=zX r k:=by simp [zX,List.find?_cons,e]
theorem zmk (k:κ): ∀kvs:List (κ×V),(kvs.any fun kv=>decide (kv.1=k))=(zX kvs k).isSome
 | []=>rfl
 | p::r=>by
  rw [List.any_cons]
  by_cases e:p.1=k
  ·simp only [zi3 e,decide_eq_true e,Bool.true_or,Option.isSome_some]
  ·rw [ziq e,decide_eq_false e,Bool.false_or];exact zmk k r
theorem zgn (kvs:List (κ×V)) (k:κ) (v:V):(yb kvs k v).length≤kvs.length+1:=by
 unfold yb
 split
 ·rw [List.length_map];omega
 ·rw [List.length_append,List.length_cons,List.length_nil];omega
theorem RelO.isSome_eq {o:Option V} {u:Option Value} (r:RelO o u):o.isSome=u.isSome:=by
 cases o with
 | none=>cases u with
  | none=>rfl
  | some _=>exact (show False from r).elim
 | some _=>cases u with
  | none=>exact (show False from r).elim
  | some _=>rfl
theorem RelO.getD {o:Option V} {u:Option Value} {d:V} {d':Value} (r:RelO o u) (rd:RelV d d'):RelV (o.getD d) (u.getD d'):=by
 cases o with
 | none=>cases u with
  | none=>exact rd
  | some _=>exact (show False from r).elim
 | some _=>cases u with
  | none=>exact (show False from r).elim
  | some _=>exact r
theorem KV.val {kvs:List (κ×V)} {vs:List (κ×Value)} (r:KV kvs vs) (k:κ):RelO (zX kvs k) (valueAt vs k):=by
 unfold KV at r
 induction r with
 | nil=>exact True.intro
 | @cons p q ps qs h t ih=>
  obtain ⟨h1,h2⟩:=h
  by_cases e:p.1=k
  ·have e':q.1=k:=h1.symm.trans e
   have b:valueAt (q::qs) k=some q.2:=by simp [valueAt,List.find?_cons,e']
   rw [zi3 e,b];exact h2
  ·have e': ¬q.1=k:=fun z=>e (h1.trans z)
   have b:valueAt (q::qs) k=valueAt qs k:=by simp [valueAt,List.find?_cons,e']
   rw [ziq e,b];exact ih
theorem KV.any {kvs:List (κ×V)} {vs:List (κ×Value)} (r:KV kvs vs) (k:κ):(kvs.any fun kv=>decide (kv.1=k))=vs.any fun kv=>decide (kv.1=k):=by
 unfold KV at r
 induction r with
 | nil=>rfl
 | cons h t ih=>rw [List.any_cons,List.any_cons,ih,h.1]
theorem KV.repl {kvs:List (κ×V)} {vs:List (κ×Value)} (r:KV kvs vs) (k:κ) {y:V} {u:Value} (ry:RelV y u):
  KV (kvs.map fun kv=>if kv.1=k then (kv.1,y) else kv) (vs.map fun kv=>if kv.1=k then (kv.1,u) else kv):=by
 unfold KV at r ⊢
 induction r with
 | nil=>exact .nil
 | @cons p q ps qs h t ih=>
  rw [List.map_cons,List.map_cons]
  refine .cons ?_ ih
  obtain ⟨h1,h2⟩:=h
  by_cases e:p.1=k
  ·rw [if_pos e,if_pos (h1.symm.trans e)];exact ⟨h1,ry⟩
  ·rw [if_neg e,if_neg (fun z=>e (h1.trans z))];exact ⟨h1,h2⟩
theorem KV.put {kvs:List (κ×V)} {vs:List (κ×Value)} (r:KV kvs vs) (k:κ) {y:V} {u:Value} (ry:RelV y u):KV (yb kvs k y) (stored vs k u):=by
 unfold yb stored
 rw [r.any k]
 by_cases e:(vs.any fun kv=>decide (kv.1=k))=true
 ·rw [if_pos e,if_pos e];exact r.repl k ry
 ·rw [if_neg e,if_neg e];exact Paired.snoc r ⟨rfl,ry⟩
theorem KV.length {kvs:List (κ×V)} {vs:List (κ×Value)} (r:KV kvs vs):kvs.length=vs.length:=Paired.length r
end
theorem zkm {P:Program} {w:World} {k:zq} {u:Value} (r:RelV (kV k) u):(yy P w).is k u=true:=by
 cases k with
 | inl i=>obtain ⟨t,e⟩:=(show ∃t,u=Value.int i t from r);subst e;exact zke P w i t
 | inr x=>obtain ⟨t,e⟩:=(show ∃t,u=Value.str x t from r);subst e;exact zkp P w x t
theorem zi8 {P:Program} {w:World}: ∀{ks:List zq} {us:List Value},Vals (ks.map kV) us→ItemsAre (yy P w) ks us
 | [],_,r=>by rw [List.map_nil] at r;cases r;exact .nil
 | k::ks,_,r=>by
  rw [List.map_cons] at r
  cases r with
  | cons h t=>exact .cons (zkm h) (zi8 t)
abbrev KT (H:Hp):List (MK×V)→Tr→Prop:=Paired fun p q=>p.1=q.1∧KyV H p.1 q.2.1∧RelV p.2 q.2.2
theorem KT.val {H:Hp} {l:List (MK×V)} {m:Tr} (r:KT H l m) (k:MK):RelO (zX l k) (zQ m k):=by
 induction r with
 | nil=>exact True.intro
 | @cons p q ps qs z _ ih=>
  obtain ⟨z1,_,z2⟩:=z
  by_cases e:p.1=k
  ·rw [zi3 e,show zQ (q::qs) k=some q.2.2 by simp [zQ,List.find?_cons,←z1,e]];exact z2
  ·rw [ziq e,show zQ (q::qs) k=zQ qs k by simp [zQ,List.find?_cons,←z1,e]];exact ih
theorem KT.put {H:Hp} {l:List (MK×V)} {m:Tr} (r:KT H l m) {k:MK} {u v:Value} {y:V} (hk:KyV H k u) (ry:RelV y v):KT H (yb l k y) (zj2 m k u v):=by
 have e:(l.any fun kv=>decide (kv.1=k))=(zQ m k).isSome:=by rw [zmk,(r.val k).isSome_eq]
 unfold yb zj2
 rw [e]
 by_cases c:(zQ m k).isSome=true
 ·rw [if_pos c,if_pos c]
  clear e c
  induction r with
  | nil=>exact .nil
  | @cons p q ps qs z _ ih=>
   refine .cons ?_ ih
   obtain ⟨z1,z2,z3⟩:=z
   dsimp only
   by_cases g:p.1=k
   ·rw [if_pos g,if_pos (z1.symm.trans g)];exact ⟨z1,z2,ry⟩
   ·rw [if_neg g,if_neg fun x=>g (z1.trans x)];exact ⟨z1,z2,z3⟩
 ·rw [if_neg c,if_neg c];exact Paired.snoc r ⟨rfl,hk,ry⟩
theorem KT.keeps {H H':Hp} {l:List (MK×V)} {m:Tr} (r:KT H l m) (ht: ∀b ys,H b=some (.tup ys)→H' b=some (.tup ys)):KT H' l m:=Paired.mapP r fun _ _ z=>⟨z.1,z.2.1.mono ht,z.2.2⟩
section
variable {P:Program} {w:World} {H:Hp} {h:Heap} {a:Addr}
theorem zyj {u:HO} (ok:HOk P w H h) (e:Rd H a u):ObjOk P w H h a u:=e.ok ok
theorem zj9 {kvs:List (zq×V)} (ok:HOk P w H h) (e:Rd H a (.dK kvs)):kvs.length≤sizeLine∧(a==sysModules)=false∧∃vs,KV kvs vs∧h.DictOf (yy P w) a vs:=
 show ObjOk P w H h a (.dK kvs) from zyj ok e
theorem zzo {kvs:List (zq×V)} (ok:HOk P w H h) (e:H a=some (.dK kvs)):kvs.length≤sizeLine∧(a==sysModules)=false∧∃vs,KV kvs vs∧h.DictOf (yy P w) a vs:=zj9 ok (.inl e)
theorem zxd {ks:List zq} (ok:HOk P w H h) (e:H a=some (.tup (ks.map kV))):(tupleKind (yy P w)).is h ks a:=by
 obtain ⟨_,its,r,o,h1,h2,n,h3⟩:=(show ObjOk P w H h a (.tup (ks.map kV)) from ok a _ e)
 exact ⟨o,its.toArray,n,h1,h2,h3,by simpa using zi8 r⟩
theorem zm2 (ok:HOk P w H h): ∀{k:MK} {u:Value},KyV H k u→yq P w h k u
 | .one _,_,r=>zkm r
 | .tup _,_,⟨b,e,q⟩=>⟨b,e,zxd ok q⟩
theorem zk9 {kvs:List (MK×V)} (ok:HOk P w H h) (e:Rd H a (.dT kvs)):kvs.length≤sizeLine∧(a==sysModules)=false∧∃xs,KT H kvs xs∧DictM P w h a xs:=by
 obtain ⟨z,y,xs,r,o,es,ep,g1,g2,g3,g4,g5,g6⟩:=(show ObjOk P w H h a (.dT kvs) from zyj ok e)
 refine ⟨z,y,xs,r,o,es,ep,g1,g2,g3,g4,⟨g5,g6⟩,?_⟩
 have all: ∀{l:List (MK×V)} {m:Tr},KT H l m→∀x∈m,yq P w h x.1 x.2.1:=fun {l m} q=>by
  induction q with
  | nil=>intro x hx;exact nomatch hx
  | cons hq _ ih=>
   intro x hx
   rcases List.mem_cons.mp hx with e | hx
   ·rw [e,←hq.1];exact zm2 ok hq.2.1
   ·exact ih x hx
 exact all r
theorem zqk {kvs:List (MK×V)} (ok:HOk P w H h) (e:H a=some (.dT kvs)):kvs.length≤sizeLine∧(a==sysModules)=false∧∃xs,KT H kvs xs∧DictM P w h a xs:=zk9 ok (.inl e)
end
def KyT (H:Hp):MK→V→Prop
 | .one k,y=>y=kV k
 | .tup ks,y=> ∃b,y= .ref b∧H b=some (.tup (ks.map kV))
theorem KyT.val {H:Hp}: ∀{k:MK} {y:V} {u:Value},KyT H k y→RelV y u→KyV H k u
 | .one k,y,u,e,r=>by have e:y=kV k:=e;subst e;exact r
 | .tup _,_,_,⟨b,e,q⟩,r=>by subst e;exact ⟨b,r,q⟩
def DGet (H:Hp) (a:Addr) (y:V) (r:Option V):Prop:=(∃kvs k,Rd H a (.dK kvs)∧y=kV k∧r=zX kvs k)∨∃kvs k,Rd H a (.dT kvs)∧KyT H k y∧r=zX kvs k
def DPut (H:Hp) (a:Addr) (y v:V) (H':Hp):Prop:=(∃kvs k,H a=some (.dK kvs)∧y=kV k∧kvs.length < sizeLine∧H'=zj H a (.dK (yb kvs k v)))∨
 ∃kvs k,H a=some (.dT kvs)∧KyT H k y∧kvs.length < sizeLine∧H'=zj H a (.dT (yb kvs k v))
theorem DGet.k {H:Hp} {a:Addr} {kvs:List (zq×V)} {k:zq} (e:H a=some (.dK kvs)):DGet H a (kV k) (zX kvs k):= .inl ⟨kvs,k,.inl e,rfl,rfl⟩
theorem DGet.t {H:Hp} {a:Addr} {y:V} {l:List (MK×V)} {k:MK} (e:H a=some (.dT l)) (hk:KyT H k y):DGet H a y (zX l k):= .inr ⟨l,k,.inl e,hk,rfl⟩
theorem DPut.k {H:Hp} {a:Addr} {kvs:List (zq×V)} {k:zq} {v:V} (e:H a=some (.dK kvs)) (hl:kvs.length < sizeLine):DPut H a (kV k) v (zj H a (.dK (yb kvs k v))):= .inl ⟨kvs,k,e,rfl,hl,rfl⟩
theorem DPut.t {H:Hp} {a:Addr} {y v:V} {l:List (MK×V)} {k:MK} (e:H a=some (.dT l)) (hk:KyT H k y) (hl:l.length < sizeLine):DPut H a y v (zj H a (.dT (yb l k v))):= .inr ⟨l,k,e,hk,hl,rfl⟩
section
variable {X:Cx} {pins:List (Addr×Obj)} {σ:St} {H:Hp} {s:Shared} {a:Addr} {y v:V} {u r:Value} {o:Option V} {A:Around} {E:Value→Shared→Prop}
theorem Inv.big (I:Inv X pins σ H s):sysModules < s.heap.objs.size:=by
 have h:mainGlobals < s.heap.objs.size:=(I.mod.glob.keeps I.bk).lt
 exact Nat.lt_trans (by decide) h
theorem zpd {Q:Value→Shared→Prop} (hu:A.units+1 < cLine) (I:Inv X pins σ H s) (g:DGet H a y (some v)) (ry:RelV y u) (h: ∀w' s',Inv X pins σ H s'→RelV v w'→Q w' s'):
  wpAny (model X.prog X.w) A (getItem (.ref a) u) Q E s:=by
 rcases g with ⟨kvs,k,e,ey,l⟩ | ⟨kvs,k,e,ek,l⟩
 ·subst ey
  obtain ⟨z,hd,vs,rel,dd⟩:=zj9 I.hok e
  obtain ⟨w',hw,rw'⟩:=RelO.some_of (v:=v) (o:=valueAt vs k) (by rw [l];exact rel.val k)
  exact wpAny_getItem_of (zkm ry) dd.mapOf hw (h w' _ (I.tok _) rw')
 ·obtain ⟨z,hd,xs,rel,dd⟩:=zk9 I.hok e
  obtain ⟨x,hx,rx⟩:=RelO.some_of (v:=v) (o:=zQ xs k) (by rw [l];exact rel.val k)
  exact zv4 hu (zm2 I.hok (ek.val ry)) dd hx fun t=>h x _ (I.tok _) rx
theorem d_in {Q:Value→Shared→Prop} (hu:A.units+1 < cLine) (I:Inv X pins σ H s) (g:DGet H a y o) (ry:RelV y u) (h: ∀s',Inv X pins σ H s'→Q (.bool o.isSome) s'):
  wpAny (model X.prog X.w) A (compareOp .In u (.ref a)) Q E s:=by
 rcases g with ⟨kvs,k,e,ey,l⟩ | ⟨kvs,k,e,ek,l⟩
 ·subst ey
  obtain ⟨z,hd,vs,rel,dd⟩:=zj9 I.hok e
  refine wpAny_in_of (zkm ry) hd dd.mapOf ?_
  rw [←(rel.val k).isSome_eq,←l]
  exact h _ (I.tok _)
 ·obtain ⟨z,hd,xs,rel,dd⟩:=zk9 I.hok e
  refine m_in hu (zm2 I.hok (ek.val ry)) hd dd fun t=>?_
  rw [←(rel.val k).isSome_eq,←l];exact h _ (I.tok _)
theorem zof {h':Heap} {t':Nat} {ob:HO} (I:Inv X pins σ H s) (mu:Mut (H a)) (hs:Heap.SameBut a s.heap h') (he: ∃q,h'.get? a=some q) (new:ObjOk X.prog X.w (zj H a ob) h' a ob):
  Inv X pins σ (zj H a ob) {s with heap:=h',toks:=t'}:=
 I.write (x:=a) (e:=a) mu (.inl rfl) (fun b q hb z=>(hs.2 b hb).trans z) he new
theorem zx0 {P:Program} {w:World} {H':Hp} {h':Heap} {kvs:List (zq×V)} {vs:List (zq×Value)} (z:kvs.length≤sizeLine) (hd:(a==sysModules)=false) (rel:KV kvs vs) (dd:h'.DictOf (yy P w) a vs):
 ObjOk P w H' h' a (.dK kvs):=⟨z,hd,vs,rel,dd⟩
theorem zn7 {H':Hp} {Q:Unit→Shared→Prop} (hu:A.units+1 < cLine) (I:Inv X pins σ H s) (g:DPut H a y v H') (ry:RelV y u) (rv:RelV v r) (h: ∀s',Inv X pins σ H' s'→Q () s'):
  wpAny (model X.prog X.w) A (setItem (.ref a) u r) Q E s:=by
 rcases g with ⟨kvs,k,e,ey,l,eH⟩ | ⟨kvs,k,e,ek,l,eH⟩
 ·subst ey eH
  obtain ⟨z,hd,vs,rel,dd⟩:=zzo I.hok e
  have hz:vs.length≤sizeLine:=by rw [←rel.length];exact z
  have hl:(yb kvs k v).length≤sizeLine:=by have:=zgn kvs k v;omega
  refine wpAny_setItem_pairs (hsz:=hz) (zkm ry) dd fun h' dd' hs=>h _ ?_
  have he: ∃q,h'.get? a=some q:=let ⟨q,_,_,hq,_⟩:=dd';⟨q,hq⟩
  exact zof I (by rw [e];exact True.intro) hs he (zx0 hl hd (rel.put k rv) dd')
 ·subst eH
  obtain ⟨z,hd,xs,rel,dd⟩:=zqk I.hok e
  have hl:(yb kvs k v).length≤sizeLine:=by have:=zgn kvs k v;omega
  refine zn3 hu (zm2 I.hok (ek.val ry)) dd (by rw [←Paired.length rel];exact z) fun h' t dd' hs=>h _ ?_
  obtain ⟨q,es,ep,q1,q2,q3,q4,q5,_⟩:=dd'
  refine zof I (by rw [e];exact True.intro) hs ⟨q,q1⟩ ⟨hl,hd,_,(rel.put (ek.val ry) rv).keeps fun c ys ec=>?_,q,es,ep,q1,q2,q3,q4,q5⟩
  rw [zR (zy7 ec e (fun z=>nomatch z))];exact ec
end
section
variable {X:Cx} {pins:List (Addr×Obj)} {σ:St} {H:Hp} {s:Shared} {a:Addr} {kvs:List (zq×V)} {k:zq} {u:Value} {A:Around} {E:Value→Shared→Prop}
end
def NoSl (i:Expr):Prop:=∀ov iv,subscripted i false ov iv=operate [ov,iv] (getItem ov iv)
theorem zux {prog:Program} {w:World} {A:Around} {E:Value→Shared→Prop} {s:Shared} {env:Env} {value slice:Expr} {pos:Pos} {T id:String} {Q:Value→Shared→Prop}
  (hl:typeLookup (.type T) "__getitem__" =pure (some (.builtin id))) (hs:NoSl slice)
  (h:wpAny (model prog w) A (eval value env) (fun o s₁=>wpAny (model prog w) A (eval slice env) (fun i s₂=>s₂.TypeIs o T∧wpAny (model prog w) A (getItem o i) Q E s₂) E s₁) E s):
  wpAny (model prog w) A (eval (.Subscript value slice pos) env) Q E s:=by
 refine Subscript_ (wpAny_mono h (fun o s₁ h₁=>wpAny_mono h₁ (fun i s₂ h₂=>?_) fun _ _ x=>x) fun _ _ x=>x)
 obtain ⟨hT,h₂⟩:=h₂
 unfold subscriptTail
 refine wpAny_bind ?_
 rw [getitemInPython_of_ne hT.not_modules]
 refine wpAny_bind (wpAny_specialOf hT hl ?_)
 have fin:wpAny (model prog w) A (subscripted slice false o i) (fun r s₃=>wpAny (model prog w) A (letTemporaryGo value o r >>=fun _=>pure r) Q E s₃) E s₂:=by
  rw [hs o i]
  exact wpAny_operating (wpAny_mono h₂ (fun r s₃ h₃=>wpAny_bind (wpAny_letTemporaryGo (wpAny_pure h₃))) fun _ _ x=>x)
 first
  | exact wpAny_pure (wpAny_bind fin)
  | exact wpAny_bind (wpAny_pure (wpAny_bind fin))
  | exact wpAny_bind fin
theorem zks {X:Cx} {pins:List (Addr×Obj)} {σ:St} {H:Hp} {s:Shared} {a:Addr} {y:V} {o:Option V} (I:Inv X pins σ H s) (g:DGet H a y o):s.TypeIs (.ref a) "dict" :=by
 rcases g with ⟨kvs,k,e,_,_⟩ | ⟨kvs,k,e,_,_⟩
 ·obtain ⟨_,_,vs,_,dd⟩:=zj9 I.hok e
  exact dd.typeIs
 ·obtain ⟨_,_,xs,_,dd⟩:=zk9 I.hok e;exact dd.typeIs
def z0h (td ty:TE):TE:=fun σ H Q=>td σ H fun x H1=>ty σ H1 fun y H2=> ∃a v,x= .ref a∧DGet H2 a y (some v)∧Q v H2
def zyc (td ty tv:TE):TS:=fun D σ H=>tv σ H fun v H1=>td σ H1 fun x H2=>ty σ H2 fun y H3=> ∃a H4,x= .ref a∧DPut H3 a y v H4∧D.nx σ H4
section
variable {X:Cx} {o i e value:Expr} {pos pos' tpos:Pos} {td ty tv:TE}
theorem zu9 (hu:X.A.units+1 < cLine) (ho:PE X o td) (hi:PE X i ty) (hs:NoSl i):PE X (.Subscript o i pos) (z0h td ty):=by
 intro pins s σ H Q I h
 refine zux PySem.F.slot_dict_getitem.lookup hs (zt (ho pins s σ H _ I h) fun u s1 ⟨x,H1,I1,rx,q1⟩=>zt (hi pins s1 σ H1 _ I1 q1) fun iv s2 ⟨y,H2,I2,ry,a,v,ex,g,q2⟩=>?_)
 subst ex
 obtain rfl:u=Value.ref a:=rx
 exact ⟨zks I2 g,zpd hu I2 g ry fun w' s3 I3 rw'=>⟨v,H2,I3,rw',q2⟩⟩
theorem zuu (hu:X.A.units+1 < cLine) (ho:PE X o td) (hi:PE X i ty) (hv:PE X value tv) (hs:swapsWith value (some (.Subscript o i pos')) pos.line X.env=pure false):
  PS X (.Assign [.Subscript o i pos'] value pos) (zyc td ty tv):=by
 intro pins s σ H D I h
 refine wpAny_Assign_Subscript (zt (hv pins s σ H _ I h) fun r s1 ⟨v,H1,I1,rv,q1⟩=>zt (ho pins s1 σ H1 _ I1 q1) fun u s2 ⟨x,H2,I2,rx,q2⟩=>zt (hi pins s2 σ H2 _ I2 q2) fun iv s3 ⟨y,H3,I3,ry,a,H4,ex,g,q3⟩=>?_) hs
 subst ex
 obtain rfl:u=Value.ref a:=rx
 exact zn7 hu I3 g ry rv fun s4 I4=>⟨σ,H4,I4,q3⟩
end
theorem zro {P:Program} {w:World} {H:Hp} (h:Heap) (hb:sysModules < h.objs.size):ObjOk P w H (h.push {cls:= .type "dict",data:= .dict #[]}) h.objs.size (.dT []):=
 ⟨Nat.zero_le _,beq_eq_false_iff_ne.mpr (Ne.symm (Nat.ne_of_lt hb)),[],.nil,_,#[],0,Heap.get?_push_size _ rfl,⟨rfl,rfl,rfl⟩,rfl,rfl,List.nodup_nil,rfl⟩
def zy5:TE:=fun _ H Q=> ∀p,H p=none→Q (.ref p) (zj H p (.dT []))
section
variable {X:Cx} {pos:Pos}
theorem zrz:PE X (.Dict [] [] pos) zy5:=fun pins s σ H Q I h=>
 wpAny_Dict_empty ⟨.ref s.heap.objs.size,_,I.laid (a:=s.heap.objs.size) (o:= .dT []) (t':=s.toks) (fun _ _ q=>Heap.get?_push_of_some _ q) (Nat.le_refl _) (zro s.heap I.big),rfl,h _ (I.hok.fresh (Nat.le_refl _))⟩
end
structure M1 (X:Cx) (o:Expr) (m:Str) (apos:Pos) (e:Expr) (cpos:Pos):Prop where
 base:attributeBase o m X.env (eval o X.env)=eval o X.env
 few:((backTo cpos (starEach [e] X.env)).all (fun x=> !x.1) && (backToKw cpos (keywordEach [] X.env)).all (fun x=>x.1.isSome)
  && decide (([e]:List Expr).length+([]:List Keyword).length+(if ([]:List Keyword).isEmpty then 0 else 1) < 30))=true
 line:(apos.endLine==cpos.line)=true
 trees:backTo cpos (starEach [e] X.env)=[(false,eval e X.env)]
structure M2 (X:Cx) (o:Expr) (m:Str) (apos:Pos) (e f:Expr) (cpos:Pos):Prop where
 base:attributeBase o m X.env (eval o X.env)=eval o X.env
 few:((backTo cpos (starEach [e,f] X.env)).all (fun x=> !x.1) && (backToKw cpos (keywordEach [] X.env)).all (fun x=>x.1.isSome)
  && decide (([e,f]:List Expr).length+([]:List Keyword).length+(if ([]:List Keyword).isEmpty then 0 else 1) < 30))=true
 line:(apos.endLine==cpos.line)=true
 trees:backTo cpos (starEach [e,f] X.env)=[(false,eval e X.env),(false,eval f X.env)]
def IsD (H:Hp) (a:Addr):Prop:=(∃kvs,Rd H a (.dK kvs))∨∃kvs,Rd H a (.dT kvs)
theorem zse {X:Cx} {pins:List (Addr×Obj)} {σ:St} {H:Hp} {s:Shared} {a:Addr} (I:Inv X pins σ H s) (d:IsD H a):
  s.TypeIs (.ref a) "dict" ∧(∀b,Value.ref a= .ref b→∃ob,s.heap.get? b=some ob∧ob.dict=none)∧(a==sysModules)=false:=by
 rcases d with ⟨kvs,e⟩ | ⟨kvs,e⟩
 ·obtain ⟨_,hd,vs,_,dd⟩:=zj9 I.hok e
  refine ⟨dd.typeIs,fun b q=>?_,hd⟩
  cases q
  obtain ⟨ob,_,_,h1,h2,_⟩:=dd
  exact ⟨ob,h1,h2.2.1⟩
 ·obtain ⟨_,hd,xs,_,dd⟩:=zk9 I.hok e
  refine ⟨dd.typeIs,fun b q=>?_,hd⟩
  cases q
  obtain ⟨ob,_,_,h1,h2,_⟩:=dd
  exact ⟨ob,h1,h2.2.1⟩
section
variable {X:Cx} {pins:List (Addr×Obj)} {σ:St} {H:Hp} {s:Shared} {a:Addr} {y d:V} {u r:Value} {o:Option V} {A:Around} {E:Value→Shared→Prop}
theorem zwa {Q:Value→Shared→Prop} (hu:A.units+1 < cLine) (I:Inv X pins σ H s) (g:DGet H a y o) (ry:RelV y u) (h: ∀w' s',Inv X pins σ H s'→RelV (o.getD .non) w'→Q w' s'):
  wpAny (model X.prog X.w) A (call (.builtin "dict.get") [.ref a,u]) Q E s:=by
 rcases g with ⟨kvs,k,e,ey,l⟩ | ⟨kvs,k,e,ek,l⟩
 ·subst ey
  obtain ⟨z,hd,vs,rel,dd⟩:=zj9 I.hok e
  refine call_meetsIn PySem.F.slot_dict_get dd.typeIs PySem.F.entry_dict_get (PySem.F.args_dict_get_2 _ _) (meets_dict_get (yy X.prog X.w) a (zkm ry) hd) ⟨_,dd.mapOf,h _ _ (I.tok _) ?_⟩
  rw [l]
  exact (rel.val k).getD rfl
 ·obtain ⟨z,hd,xs,rel,dd⟩:=zk9 I.hok e
  refine call_meetsIn PySem.F.slot_dict_get dd.typeIs PySem.F.entry_dict_get (PySem.F.args_dict_get_2 _ _) (zrr hd) ⟨hu,k,xs,zm2 I.hok (ek.val ry),dd,fun t=>h _ _ (I.tok _) ?_⟩
  rw [l];exact (rel.val k).getD rfl
theorem zx8 {Q:Value→Shared→Prop} (hu:A.units+1 < cLine) (I:Inv X pins σ H s) (g:DGet H a y o) (ry:RelV y u) (rd:RelV d r) (h: ∀w' s',Inv X pins σ H s'→RelV (o.getD d) w'→Q w' s'):
  wpAny (model X.prog X.w) A (call (.builtin "dict.get") [.ref a,u,r]) Q E s:=by
 rcases g with ⟨kvs,k,e,ey,l⟩ | ⟨kvs,k,e,ek,l⟩
 ·subst ey
  obtain ⟨z,hd,vs,rel,dd⟩:=zj9 I.hok e
  refine call_meetsIn PySem.F.slot_dict_get dd.typeIs PySem.F.entry_dict_get (PySem.F.args_dict_get_3 _ _ _) (meets_dict_get_default (yy X.prog X.w) a (zkm ry) hd r) ⟨_,dd.mapOf,h _ _ (I.tok _) ?_⟩
  rw [l]
  exact (rel.val k).getD rd
 ·obtain ⟨z,hd,xs,rel,dd⟩:=zk9 I.hok e
  refine call_meetsIn PySem.F.slot_dict_get dd.typeIs PySem.F.entry_dict_get (PySem.F.args_dict_get_3 _ _ _) (zrb hd r) ⟨hu,k,xs,zm2 I.hok (ek.val ry),dd,fun t=>h _ _ (I.tok _) ?_⟩
  rw [l];exact (rel.val k).getD rd
end
def zwl (td ty:TE):TE:=fun σ H Q=>td σ H fun x H1=> ∃a,x= .ref a∧IsD H1 a∧ty σ H1 fun y H2=> ∃o,DGet H2 a y o∧Q (o.getD .non) H2
def zx2 (td ty tx:TE):TE:=fun σ H Q=>td σ H fun x H1=> ∃a,x= .ref a∧IsD H1 a∧ty σ H1 fun y H2=>tx σ H2 fun z H3=> ∃o,DGet H3 a y o∧Q (o.getD z) H3
section
variable {X:Cx} {o e f:Expr} {apos cpos:Pos} {td ty tx:TE}
theorem zri (hu:X.A.units+1 < cLine) (ho:PE X o td) (he:PE X e ty) (m:M1 X o "get" apos e cpos):PE X (.Call (.Attribute o "get" apos) [e] [] cpos) (zwl td ty):=by
 intro pins s σ H Q I h
 refine wpAny_Call_method m.base m.few m.line PySem.F.plainAttrs_dict PySem.F.slot_dict_get PySem.F.type_dict_get (zt (ho pins s σ H _ I h) fun u s1 ⟨x,H1,I1,rx,a,ex,d,q1⟩=>?_)
 subst ex
 obtain rfl:u=Value.ref a:=rx
 obtain ⟨t1,t2,_⟩:=zse I1 d
 refine ⟨t1,t2,?_⟩
 rw [m.trees]
 refine Calls.callWith_builtin rfl (Calls.evalArgs_plain (Calls.spliced_cons (zt (he pins s1 σ H1 _ I1 q1) fun iv s2 ⟨y,H2,I2,ry,ov,g,q2⟩=>Calls.spliced_nil ?_)))
 exact zwa hu I2 g ry fun w' s3 I3 rw'=>⟨_,H2,I3,rw',q2⟩
theorem zrt (hu:X.A.units+1 < cLine) (ho:PE X o td) (he:PE X e ty) (hf:PE X f tx) (m:M2 X o "get" apos e f cpos):PE X (.Call (.Attribute o "get" apos) [e,f] [] cpos) (zx2 td ty tx):=by
 intro pins s σ H Q I h
 refine wpAny_Call_method m.base m.few m.line PySem.F.plainAttrs_dict PySem.F.slot_dict_get PySem.F.type_dict_get (zt (ho pins s σ H _ I h) fun u s1 ⟨x,H1,I1,rx,a,ex,d,q1⟩=>?_)
 subst ex
 obtain rfl:u=Value.ref a:=rx
 obtain ⟨t1,t2,_⟩:=zse I1 d
 refine ⟨t1,t2,?_⟩
 rw [m.trees]
 refine Calls.callWith_builtin rfl (Calls.evalArgs_plain (Calls.spliced_cons (zt (he pins s1 σ H1 _ I1 q1) fun iv s2 ⟨y,H2,I2,ry,q2⟩=>
  Calls.spliced_cons (zt (hf pins s2 σ H2 _ I2 q2) fun fv s3 ⟨z,H3,I3,rz,ov,g,q3⟩=>Calls.spliced_nil ?_))))
 exact zx8 hu I3 g ry rz fun w' s4 I4 rw'=>⟨_,H3,I4,rw',q3⟩
end
section
variable {X:Cx} {pins:List (Addr×Obj)} {σ:St} {H:Hp} {s:Shared} {a:Addr} {kvs:List (zq×V)} {A:Around} {E:Value→Shared→Prop}
end
section
variable {X:Cx} {pins:List (Addr×Obj)} {σ:St} {H:Hp} {s:Shared} {a:Addr} {y:V} {u:Value} {A:Around} {E:Value→Shared→Prop}
end
section
variable {X:Cx}
end
section
variable {κ:Type} [DecidableEq κ]
end
section
variable {X:Cx} {tg:Expr}
end
section
variable {g:TG} {tc:TT} {te:TE} {k:Nat} {fr:List Nat} {σ:St} {H:Hp} {Q:VK} {D:Addr}
end
end L2
namespace Ts
open PySem PySem.W PyProof.Rows
noncomputable def qI:Bool→Keyed→Array Keyed→Nat→Nat→Nat→StateT SortSt Sem (Option Nat):=sortPriv% PySem.Builtin.gallop
noncomputable def bey (lf:Bool) (ke:Keyed) (xs:Array Keyed) (st0 i:Nat):StateT SortSt Sem (Option Bool):=do
 let x ←elem' xs (st0+i)
 if lf then lt' x ke
 else
  let r ←lt' ke x
  return r.map (!·)
theorem znl (lf:Bool) (ke:Keyed) (xs:Array Keyed) (st0 n hi0:Nat):qI lf ke xs st0 n hi0=(do
 let mut la:=0
 let mut of:=1
 let mut l:=0
 let mut h:=0
 let some ri ←bey lf ke xs st0 hi0
  | return none
 if ri then
  let mx:=n - hi0
  for _ in [0:n] do
   if of≥mx then break
   let some mo ←bey lf ke xs st0 (hi0+of)
    | return none
   if !mo then break
   la:=of
   of:=2*of+1
  l:=hi0+la+1
  h:=hi0+min of mx
 else
  let mx:=hi0+1
  for _ in [0:n] do
   if of≥mx then break
   let some fo ←bey lf ke xs st0 (hi0 - of)
    | return none
   if fo then break
   la:=of
   of:=2*of+1
  l:=hi0+1 - min of mx
  h:=hi0 - la
 for _ in [0:n] do
  if l≥h then break
  let m:=l+(h - l) / 2
  let some mo ←bey lf ke xs st0 m
   | return none
  if mo then l:=m+1 else h:=m
 return some h):=rfl
section
variable {prog:Program} {w:World} {A:Around} {E:Value→Shared→Prop} {s:Shared} {κt:Type} {lt:κt→κt→Bool} {kf:Keyed→κt} {κ0:SortKind} {it:Array Keyed}
def Cmp (prog:Program) (w:World) (A:Around) (E:Value→Shared→Prop) (s:Shared) (lt:κt→κt→Bool) (kf:Keyed→κt) (κ0:SortKind) (it:Array Keyed):Prop:=
 ∀(x y:Keyed) (st:SortSt) (Q:Option Bool→SortSt→Prop),x∈it.toList→y∈it.toList→kindOf st=κ0→Q (some (lt (kf x) (kf y))) st→wpS (model prog w) A E s (lt' x y) Q st
theorem yJ {xs:Array Keyed} {i:Nat} {x:Keyed} {Q:Keyed→SortSt→Prop} {st:SortSt} (h:xs[i]? =some x) (q:Q x st):wpS (model prog w) A E s (elem' xs i) Q st:=by
 rw [elem'_eq,h];exact wpS_pure q
def beh (lt:κt→κt→Bool) (lf:Bool) (k:κt) (x:κt):Bool:=if lf then lt x k else !lt k x
theorem zvs (hc:Cmp prog w A E s lt kf κ0 it) {lf:Bool} {ke:Keyed} {xs:Array Keyed} {st0 i:Nat} {x:Keyed} {Q:Option Bool→SortSt→Prop} {st:SortSt} (hk:kindOf st=κ0) (hke:ke∈it.toList) (h:xs[st0+i]? =some x) (hx:x∈it.toList)
  (q:Q (some (beh lt lf (kf ke) (kf x))) st):wpS (model prog w) A E s (bey lf ke xs st0 i) Q st:=by
 unfold bey
 refine wpS_bind (yJ h ?_)
 unfold beh at q
 cases lf with
 | true=>rw [if_pos rfl];exact hc x ke st Q hx hke hk q
 | false=>
  rw [if_neg (by simp)]
  exact wpS_bind (hc ke x st _ hke hx hk (wpS_pure q))
theorem zhq (hc:Cmp prog w A E s lt kf κ0 it) {lf:Bool} {ke:Keyed} {xs:Array Keyed} {st0 n hi0:Nat} {Q:Option Nat→SortSt→Prop} {st:SortSt} (hk:kindOf st=κ0) (hke:ke∈it.toList) (hh:hi0 < n)
  (hx: ∀i,i < n→∃x,xs[st0+i]? =some x∧x∈it.toList) (B:Nat→Bool) (hB: ∀i x,i < n→xs[st0+i]? =some x→B i=beh lt lf (kf ke) (kf x)) (hm: ∀i j,i≤j→j < n→B j=true→B i=true)
  (q: ∀k,k≤n→(∀i,i < k→B i=true)→(∀i,k≤i→i < n→B i=false)→Q (some k) st):wpS (model prog w) A E s (qI lf ke xs st0 n hi0) Q st:=by
 have ask: ∀(i:Nat) (Q':Option Bool→SortSt→Prop),i < n→Q' (some (B i)) st→wpS (model prog w) A E s (bey lf ke xs st0 i) Q' st:=fun i Q' hi h=>by
  obtain ⟨x,ex,mx⟩:=hx i hi
  rw [hB i x hi ex] at h
  exact zvs hc hk hke ex mx h
 have hmf: ∀i j,i≤j→j < n→B i=false→B j=false:=fun i j hij hj hf=>by
  cases e:B j with
  | false=>rfl
  | true=>rw [hm i j hij hj e] at hf;cases hf
 rw [znl]
 refine wpS_bind (ask hi0 _ hh ?_)
 cases e0:B hi0 with
 | true=>
  dsimp only
  rw [if_pos rfl]
  refine wpS_bind (wpS_mono (wpS_forRange (I:=fun x c st'=>st=st'∧∃la of,c=(none,la,of)∧la < of∧x+1≤of∧(hi0+la < n)∧B (hi0+la)=true)
   (Q:=fun c st'=>st=st'∧∃la of,c=(none,la,of)∧la < of∧hi0+la < n∧B (hi0+la)=true∧(of≥n - hi0∨B (hi0+of)=false)) ?_ ?_ ?_) ?_)
  ·rintro x c st' _ hxn ⟨rfl,la,of,rfl,h1,h2,h3,h4⟩
   dsimp only
   by_cases hge:of≥n - hi0
   ·rw [if_pos hge]
    exact wpS_pure ⟨rfl,la,of,rfl,h1,h3,h4,.inl hge⟩
   ·rw [if_neg hge]
    refine wpS_bind (ask _ _ (by omega) ?_)
    cases e:B (hi0+of) with
    | true=>
     dsimp only
     exact wpS_pure ⟨rfl,_,_,rfl,by omega,by omega,by omega,e⟩
    | false=>
     dsimp only
     exact wpS_pure ⟨rfl,la,of,rfl,h1,h3,h4,.inr e⟩
  ·rintro c st' ⟨rfl,la,of,rfl,h1,h2,h3,h4⟩
   exact ⟨rfl,la,of,rfl,h1,h3,h4,.inl (by omega)⟩
  ·exact ⟨rfl,0,1,rfl,by omega,by omega,by omega,e0⟩
  ·rintro c st' ⟨rfl,la,of,rfl,h1,h3,h4,h5⟩
   dsimp only
   refine wpS_bind (wpS_mono (wpS_forRange (I:=fun x c st'=>st=st'∧∃l h,c=(none,l,h)∧l≤h∧h≤n∧h - l≤n - x∧(∀i,i < l→B i=true)∧(∀i,h≤i→i < n→B i=false))
    (Q:=fun c st'=>st=st'∧∃k,c=(none,k,k)∧k≤n∧(∀i,i < k→B i=true)∧(∀i,k≤i→i < n→B i=false)) ?_ ?_ ?_) ?_)
   ·rintro x c st' _ hxn ⟨rfl,l,h,rfl,hl,hn,hm',hlo,hhi⟩
    dsimp only
    by_cases hge:l≥h
    ·rw [if_pos hge]
     have:l=h:=by omega
     subst this
     exact wpS_pure ⟨rfl,l,rfl,hn,hlo,hhi⟩
    ·rw [if_neg hge]
     refine wpS_bind (ask _ _ (by omega) ?_)
     cases e:B (l+(h - l) / 2) with
     | true=>
      dsimp only
      rw [if_pos rfl]
      exact wpS_pure ⟨rfl,_,_,rfl,by omega,hn,by omega,fun i hi=>hm i (l+(h - l) / 2) (by omega) (by omega) e,hhi⟩
     | false=>
      dsimp only
      rw [if_neg (by simp)]
      exact wpS_pure ⟨rfl,_,_,rfl,by omega,by omega,by omega,hlo,fun i hi hin=>hmf _ i hi hin e⟩
   ·rintro c st' ⟨rfl,l,h,rfl,hl,hn,hm',hlo,hhi⟩
    have:l=h:=by omega
    subst this
    exact ⟨rfl,l,rfl,hn,hlo,hhi⟩
   rotate_left
   ·rintro c st' ⟨rfl,k,rfl,hk',hlo,hhi⟩
    exact wpS_pure (q k hk' hlo hhi)
   refine ⟨rfl,hi0+la+1,hi0+min of (n - hi0),rfl,by omega,by omega,by omega,(fun i hi=>hm i (hi0+la) (by omega) h3 h4),(fun i hi hin=>?_)⟩
   rcases h5 with h5 | h5
   ·omega
   ·exact hmf (hi0+of) i (by omega) hin h5
 | false=>
  dsimp only
  rw [if_neg (by simp)]
  refine wpS_bind (wpS_mono (wpS_forRange (I:=fun x c st'=>st=st'∧∃la of,c=(none,la,of)∧la < of∧x+1≤of∧la≤hi0∧B (hi0 - la)=false)
   (Q:=fun c st'=>st=st'∧∃la of,c=(none,la,of)∧la < of∧la≤hi0∧B (hi0 - la)=false∧(of≥hi0+1∨(of≤hi0∧B (hi0 - of)=true))) ?_ ?_ ?_) ?_)
  ·rintro x c st' _ hxn ⟨rfl,la,of,rfl,h1,h2,h3,h4⟩
   dsimp only
   by_cases hge:of≥hi0+1
   ·rw [if_pos hge]
    exact wpS_pure ⟨rfl,la,of,rfl,h1,h3,h4,.inl hge⟩
   ·rw [if_neg hge]
    refine wpS_bind (ask _ _ (by omega) ?_)
    cases e:B (hi0 - of) with
    | true=>
     dsimp only
     rw [if_pos rfl]
     exact wpS_pure ⟨rfl,la,of,rfl,h1,h3,h4,.inr ⟨by omega,e⟩⟩
    | false=>
     dsimp only
     rw [if_neg (by simp)]
     exact wpS_pure ⟨rfl,_,_,rfl,by omega,by omega,by omega,e⟩
  ·rintro c st' ⟨rfl,la,of,rfl,h1,h2,h3,h4⟩
   exact ⟨rfl,la,of,rfl,h1,h3,h4,.inl (by omega)⟩
  ·exact ⟨rfl,0,1,rfl,by omega,by omega,by omega,e0⟩
  ·rintro c st' ⟨rfl,la,of,rfl,h1,h3,h4,h5⟩
   dsimp only
   refine wpS_bind (wpS_mono (wpS_forRange (I:=fun x c st'=>st=st'∧∃l h,c=(none,l,h)∧l≤h∧h≤n∧h - l≤n - x∧(∀i,i < l→B i=true)∧(∀i,h≤i→i < n→B i=false))
    (Q:=fun c st'=>st=st'∧∃k,c=(none,k,k)∧k≤n∧(∀i,i < k→B i=true)∧(∀i,k≤i→i < n→B i=false)) ?_ ?_ ?_) ?_)
   ·rintro x c st' _ hxn ⟨rfl,l,h,rfl,hl,hn,hm',hlo,hhi⟩
    dsimp only
    by_cases hge:l≥h
    ·rw [if_pos hge]
     have:l=h:=by omega
     subst this
     exact wpS_pure ⟨rfl,l,rfl,hn,hlo,hhi⟩
    ·rw [if_neg hge]
     refine wpS_bind (ask _ _ (by omega) ?_)
     cases e:B (l+(h - l) / 2) with
     | true=>
      dsimp only
      rw [if_pos rfl]
      exact wpS_pure ⟨rfl,_,_,rfl,by omega,hn,by omega,fun i hi=>hm i (l+(h - l) / 2) (by omega) (by omega) e,hhi⟩
     | false=>
      dsimp only
      rw [if_neg (by simp)]
      exact wpS_pure ⟨rfl,_,_,rfl,by omega,by omega,by omega,hlo,fun i hi hin=>hmf _ i hi hin e⟩
   ·rintro c st' ⟨rfl,l,h,rfl,hl,hn,hm',hlo,hhi⟩
    have:l=h:=by omega
    subst this
    exact ⟨rfl,l,rfl,hn,hlo,hhi⟩
   rotate_left
   ·rintro c st' ⟨rfl,k,rfl,hk',hlo,hhi⟩
    exact wpS_pure (q k hk' hlo hhi)
   refine ⟨rfl,hi0+1 - min of (hi0+1),hi0 - la,rfl,by omega,by omega,by omega,(fun i hi=>?_),(fun i hi hin=>hmf (hi0 - la) i hi hin h4)⟩
   rcases h5 with h5 | h5
   ·omega
   ·exact hm i (hi0 - of) (by omega) (by omega) h5.2
end
def mloP:Array Keyed→Array Keyed→StateT SortSt Sem (Array Keyed):=sortPriv% PySem.Builtin.mergeLo
abbrev zG (st:SortSt) (g:Nat):SortSt:=SortSt.mk' (kindOf st) (arrOf st) (pendingOf st) g (failedOf st)
def sgP:Nat→StateT SortSt Sem Unit:=sortPriv% PySem.Builtin.setMinGallop
theorem zmg (g:Nat):sgP g=modify fun st=>zG st g:=rfl
theorem zvf (a b:Array Keyed):mloP a b=(do
 rule "list.sort.merge-lo"
 let tot:=a.size+b.size
 let dn (o:Array Keyed) (x y:Nat):=o++a.extract x a.size++b.extract y b.size
 let la (o:Array Keyed) (x y:Nat):=o++b.extract y b.size++a.extract x a.size
 let mut o:Array Keyed:= #[←elem' b 0]
 let mut x:=0
 let mut y:=1
 if y==b.size then
  return dn o x y
 if x+1==a.size then
  return la o x y
 let mut g:=gallopOf (←get)
 for _ in [0:tot] do
  let mut ca:=0
  let mut cb:=0
  for _ in [0:tot] do
   let some bw ←lt' (←elem' b y) (←elem' a x)
    | return dn o x y
   if bw then
    o:=o.push (←elem' b y)
    y:=y+1
    cb:=cb+1
    ca:=0
    if y==b.size then
     return dn o x y
    if cb≥g then break
   else
    o:=o.push (←elem' a x)
    x:=x+1
    ca:=ca+1
    cb:=0
    if x+1==a.size then
     return la o x y
    if ca≥g then break
  rule "list.sort.gallop"
  g:=g+1
  for _ in [0:tot] do
   if g > 1 then g:=g - 1
   sgP g
   let some k ←qI false (←elem' b y) a x (a.size - x) 0
    | return dn o x y
   ca:=k
   if k > 0 then
    o:=o++a.extract x (x+k)
    x:=x+k
    if x+1==a.size then
     return la o x y
    if x==a.size then
     return dn o x y
   o:=o.push (←elem' b y)
   y:=y+1
   if y==b.size then
    return dn o x y
   let some k ←qI true (←elem' a x) b y (b.size - y) 0
    | return dn o x y
   cb:=k
   if k > 0 then
    o:=o++b.extract y (y+k)
    y:=y+k
    if y==b.size then
     return dn o x y
   o:=o.push (←elem' a x)
   x:=x+1
   if x+1==a.size then
    return la o x y
   if ca < 7 && cb < 7 then break
  g:=g+1
  sgP g
 unsupported "internal:list.sort.merge-bound"):=rfl
section
variable {κt:Type} {lt:κt→κt→Bool} {kf:Keyed→κt}
def le (lt:κt→κt→Bool) (kf:Keyed→κt) (u v:Keyed):Prop:=lt (kf v) (kf u)=false
theorem le_trans (O:Srt.Ord lt) {u v x:Keyed} (h1:le lt kf u v) (h2:le lt kf v x):le lt kf u x:=O.trans _ _ _ h1 h2
theorem zi5 (O:Srt.Ord lt) {u v:Keyed} (h:lt (kf u) (kf v)=true):le lt kf u v:=O.asym _ _ h
theorem le_refl (O:Srt.Ord lt) (u:Keyed):le lt kf u u:=Srt.irr O _
abbrev Sd (lt:κt→κt→Bool) (kf:Keyed→κt) (l:List Keyed):Prop:=l.Pairwise (le lt kf)
theorem Sd.at (O:Srt.Ord lt) {l:List Keyed} (h:Sd lt kf l) {i j:Nat} {u v:Keyed} (hij:i≤j) (hi:l[i]? =some u) (hj:l[j]? =some v):le lt kf u v:=by
 by_cases e:i=j
 ·subst e;rw [hi] at hj;cases hj;exact le_refl O u
 ·obtain ⟨h1,e1⟩:=List.getElem?_eq_some_iff.mp hi
  obtain ⟨h2,e2⟩:=List.getElem?_eq_some_iff.mp hj
  have:=List.pairwise_iff_getElem.mp h i j h1 h2 (by omega)
  rw [e1,e2] at this;exact this
theorem Sd.drop (O:Srt.Ord lt) {l:List Keyed} (h:Sd lt kf l) {i:Nat} {u v:Keyed} (hi:l[i]? =some u) (hv:v∈l.drop i):le lt kf u v:=by
 obtain ⟨j,hj⟩:=List.mem_iff_getElem?.mp hv
 rw [List.getElem?_drop] at hj
 exact h.at O (by omega) hi hj
structure Mi (lt:κt→κt→Bool) (kf:Keyed→κt) (a b o:Array Keyed) (x y:Nat):Prop where
 perm:o.toList.Perm (a.toList.take x++b.toList.take y)
 sort:Sd lt kf o.toList
 ua: ∀u∈o.toList,∀v∈a.toList.drop x,le lt kf u v
 ub: ∀u∈o.toList,∀v∈b.toList.drop y,le lt kf u v
theorem Mi.swap {a b o:Array Keyed} {x y:Nat} (h:Mi lt kf a b o x y):Mi lt kf b a o y x:=⟨h.perm.trans List.perm_append_comm,h.sort,h.ub,h.ua⟩
theorem zgf {l:List Keyed} {i:Nat} {u:Keyed} (h:l[i]? =some u):l.drop i=u::l.drop (i+1):=by
 obtain ⟨h1,e1⟩:=List.getElem?_eq_some_iff.mp h
 rw [List.drop_eq_getElem_cons h1,e1]
theorem zkk {l:List Keyed} {i:Nat} {u:Keyed} (h:l[i]? =some u):u∈l.drop i:=by rw [zgf h];exact List.mem_cons_self
theorem Mi.a (O:Srt.Ord lt) {a b o:Array Keyed} {x y:Nat} {e:Keyed} (h:Mi lt kf a b o x y) (sa:Sd lt kf a.toList) (hx:a.toList[x]? =some e) (hb: ∀v∈b.toList.drop y,le lt kf e v):Mi lt kf a b (o.push e) (x+1) y:=by
 have ed:=zgf hx
 refine ⟨?_,?_,fun u hu v hv=>?_,fun u hu v hv=>?_⟩
 ·rw [Array.toList_push,List.take_add_one,hx]
  refine (h.perm.append_right [e]).trans ?_
  rw [List.append_assoc,List.append_assoc]
  exact (List.perm_append_comm).append_left _
 ·rw [Array.toList_push]
  refine List.pairwise_append.mpr ⟨h.sort,List.pairwise_singleton _ _,fun u hu v hv=>?_⟩
  rw [List.mem_singleton.mp hv]
  exact h.ua u hu e (zkk hx)
 ·rw [Array.toList_push] at hu
  rcases List.mem_append.mp hu with hu | hu
  ·exact h.ua u hu v (by rw [ed];exact List.mem_cons_of_mem _ hv)
  ·rw [List.mem_singleton.mp hu]
   exact sa.drop O hx (by rw [ed];exact List.mem_cons_of_mem _ hv)
 ·rw [Array.toList_push] at hu
  rcases List.mem_append.mp hu with hu | hu
  ·exact h.ub u hu v hv
  ·rw [List.mem_singleton.mp hu];exact hb v hv
theorem Mi.b (O:Srt.Ord lt) {a b o:Array Keyed} {x y:Nat} {e:Keyed} (h:Mi lt kf a b o x y) (sb:Sd lt kf b.toList) (hy:b.toList[y]? =some e) (ha: ∀v∈a.toList.drop x,le lt kf e v):Mi lt kf a b (o.push e) x (y+1):=(h.swap.a O sb hy ha).swap
theorem zrg {a o:Array Keyed} {x k:Nat} {e:Keyed} (h:a.toList[x+k]? =some e):o++a.extract x (x+(k+1))=(o++a.extract x (x+k)).push e:=by
 apply Array.ext'
 rw [Array.toList_push,Array.toList_append,Array.toList_append,Array.toList_extract,Array.toList_extract,List.append_assoc]
 congr 1
 rw [List.extract_eq_take_drop,List.extract_eq_take_drop,show x+(k+1) - x=k+1 by omega,show x+k - x=k by omega,List.take_add_one,List.getElem?_drop,h];rfl
theorem Mi.as (O:Srt.Ord lt) {a b o:Array Keyed} {x y:Nat} (h:Mi lt kf a b o x y) (sa:Sd lt kf a.toList): ∀k,x+k≤a.size→(∀i e,i < k→a.toList[x+i]? =some e→∀v∈b.toList.drop y,le lt kf e v)→Mi lt kf a b (o++a.extract x (x+k)) (x+k) y
 | 0,_,_=>by
  have e:o++a.extract x (x+0)=o:=by
   apply Array.ext'
   rw [Array.toList_append,Array.toList_extract,List.extract_eq_take_drop,show x+0 - x=0 by omega,List.take_zero,List.append_nil]
  rw [e];exact h
 | k+1,hk,hb=>by
  have ih:=h.as O sa k (by omega) fun i e hi=>hb i e (by omega)
  have hl:x+k < a.toList.length:=by rw [Array.length_toList];omega
  have he:a.toList[x+k]? =some (a.toList[x+k]):=zy hl
  rw [zrg he]
  exact ih.a O sa he (hb k _ (by omega) he)
theorem Mi.bs (O:Srt.Ord lt) {a b o:Array Keyed} {x y:Nat} (h:Mi lt kf a b o x y) (sb:Sd lt kf b.toList) (k:Nat) (hk:y+k≤b.size) (ha: ∀i e,i < k→b.toList[y+i]? =some e→∀v∈a.toList.drop x,le lt kf e v):Mi lt kf a b (o++b.extract y (y+k)) x (y+k):=(h.swap.as O sb k hk ha).swap
def Rs (lt:κt→κt→Bool) (kf:Keyed→κt) (a b r:Array Keyed):Prop:=r.toList.Perm (a.toList++b.toList)∧Sd lt kf r.toList
theorem zir (a:Array Keyed) (x:Nat):(a.extract x a.size).toList=a.toList.drop x:=by
 rw [Array.toList_extract,List.extract_eq_take_drop,List.take_of_length_le (by rw [List.length_drop,Array.length_toList];exact Nat.le_refl _)]
theorem Mi.done {a b o:Array Keyed} {x y:Nat} (h:Mi lt kf a b o x y) (sa:Sd lt kf a.toList) (sb:Sd lt kf b.toList) (hz:x=a.size∨y=b.size):Rs lt kf a b (o++a.extract x a.size++b.extract y b.size):=by
 unfold Rs
 rw [Array.toList_append,Array.toList_append,zir,zir]
 constructor
 ·refine ((h.perm.append_right _).append_right _).trans ?_
  have e1:=List.take_append_drop x a.toList
  have e2:=List.take_append_drop y b.toList
  rw [List.append_assoc (a.toList.take x)]
  refine ((List.perm_append_comm.append_left (a.toList.take x)).append_right _).trans ?_
  rw [←List.append_assoc,e1,List.append_assoc,e2]
 ·refine List.pairwise_append.mpr ⟨List.pairwise_append.mpr ⟨h.sort,List.Pairwise.drop sa,fun u hu v hv=>h.ua u hu v hv⟩,List.Pairwise.drop sb,fun u hu v hv=>?_⟩
  rcases List.mem_append.mp hu with hu | hu
  ·exact h.ub u hu v hv
  ·rcases hz with hz | hz
   ·rw [hz,←Array.length_toList,List.drop_length] at hu;cases hu
   ·rw [hz,←Array.length_toList,List.drop_length] at hv;cases hv
theorem Rs.swap {a b r:Array Keyed} (h:Rs lt kf b a r):Rs lt kf a b r:=⟨h.1.trans List.perm_append_comm,h.2⟩
theorem Mi.last {a b o:Array Keyed} {x y:Nat} (h:Mi lt kf a b o x y) (sa:Sd lt kf a.toList) (sb:Sd lt kf b.toList) (hl: ∀v∈b.toList.drop y,∀e∈a.toList.drop x,le lt kf v e):Rs lt kf a b (o++b.extract y b.size++a.extract x a.size):=by
 unfold Rs
 rw [Array.toList_append,Array.toList_append,zir,zir]
 constructor
 ·refine ((h.perm.append_right _).append_right _).trans ?_
  have e1:=List.take_append_drop x a.toList
  have e2:=List.take_append_drop y b.toList
  rw [List.append_assoc (a.toList.take x),e2,List.append_assoc]
  refine (List.perm_append_comm.append_left _).trans ?_
  rw [←List.append_assoc,e1]
 ·refine List.pairwise_append.mpr ⟨List.pairwise_append.mpr ⟨h.sort,List.Pairwise.drop sb,fun u hu v hv=>h.ub u hu v hv⟩,List.Pairwise.drop sa,fun u hu v hv=>?_⟩
  rcases List.mem_append.mp hu with hu | hu
  ·exact h.ua u hu v hv
  ·exact hl u hu v hv
end
section
variable {prog:Program} {w:World} {A:Around} {E:Value→Shared→Prop} {s:Shared} {κt:Type} {lt:κt→κt→Bool} {kf:Keyed→κt} {κ0:SortKind} {it:Array Keyed}
theorem zd4 {x:String} {Q:Unit→SortSt→Prop} {st:SortSt} (q:Q () st):wpS (model prog w) A E s (liftM (rule x):StateT SortSt Sem Unit) Q st:=wpS_lift (wpAny_rule ⟨rfl,q⟩)
theorem yM {a:Array Keyed} {i:Nat} (h:i < a.size): ∃e,a[i]? =some e∧a.toList[i]? =some e∧e∈a.toList:=by
 refine ⟨a[i],by simp [h],by simp [h],?_⟩
 exact Array.getElem_mem_toList h
theorem ziu (O:Srt.Ord lt) (hc:Cmp prog w A E s lt kf κ0 it) {ke:Keyed} {a:Array Keyed} {x hi0 n:Nat} {Q:Option Nat→SortSt→Prop} {st:SortSt} (hk:kindOf st=κ0) (hke:ke∈it.toList) (ha: ∀u∈a.toList,u∈it.toList) (hn:x+n≤a.size) (hh:hi0 < n)
  (sa: ∀i j u v,i≤j→j < n→a.toList[x+i]? =some u→a.toList[x+j]? =some v→le lt kf u v)
  (q: ∀k,k≤n→(∀i e,i < k→a.toList[x+i]? =some e→le lt kf e ke)→(∀i e,k≤i→i < n→a.toList[x+i]? =some e→lt (kf ke) (kf e)=true)→Q (some k) st):wpS (model prog w) A E s (qI false ke a x n hi0) Q st:=by
 refine zhq hc hk hke hh (fun i hi=>?_) (fun i=>match a[x+i]? with | some e=> !lt (kf ke) (kf e) | none=>false) (fun i e hi he=>?_) (fun i j hij hj hB=>?_) fun k hkn h1 h2=>?_
 ·obtain ⟨e,h1,h2,h3⟩:=yM (a:=a) (i:=x+i) (by omega)
  exact ⟨e,h1,ha e h3⟩
 ·(try dsimp only);rw [he];rfl
 ·obtain ⟨u,u1,u2,u3⟩:=yM (a:=a) (i:=x+i) (by omega)
  obtain ⟨v,v1,v2,v3⟩:=yM (a:=a) (i:=x+j) (by omega)
  try dsimp only at hB ⊢
  rw [v1] at hB
  rw [u1]
  try dsimp only at hB ⊢
  have hv:le lt kf v ke:=by unfold le;simpa using hB
  have:=le_trans O (sa i j u v hij hj u2 v2) hv
  unfold le at this
  rw [this];rfl
 ·refine q k hkn (fun i e hi he=>?_) fun i e hi hin he=>?_
  ·have:=h1 i hi
   try dsimp only at this
   rw [←Array.getElem?_toList,he] at this
   unfold le;simpa using this
  ·have:=h2 i hi hin
   try dsimp only at this
   rw [←Array.getElem?_toList,he] at this
   simpa using this
theorem zh9 (O:Srt.Ord lt) (hc:Cmp prog w A E s lt kf κ0 it) {ke:Keyed} {a:Array Keyed} {x hi0 n:Nat} {Q:Option Nat→SortSt→Prop} {st:SortSt} (hk:kindOf st=κ0) (hke:ke∈it.toList) (ha: ∀u∈a.toList,u∈it.toList) (hn:x+n≤a.size) (hh:hi0 < n)
  (sa: ∀i j u v,i≤j→j < n→a.toList[x+i]? =some u→a.toList[x+j]? =some v→le lt kf u v)
  (q: ∀k,k≤n→(∀i e,i < k→a.toList[x+i]? =some e→lt (kf e) (kf ke)=true)→(∀i e,k≤i→i < n→a.toList[x+i]? =some e→le lt kf ke e)→Q (some k) st):wpS (model prog w) A E s (qI true ke a x n hi0) Q st:=by
 refine zhq hc hk hke hh (fun i hi=>?_) (fun i=>match a[x+i]? with | some e=>lt (kf e) (kf ke) | none=>false) (fun i e hi he=>?_) (fun i j hij hj hB=>?_) fun k hkn h1 h2=>?_
 ·obtain ⟨e,h1,h2,h3⟩:=yM (a:=a) (i:=x+i) (by omega)
  exact ⟨e,h1,ha e h3⟩
 ·(try dsimp only);rw [he];rfl
 ·obtain ⟨u,u1,u2,u3⟩:=yM (a:=a) (i:=x+i) (by omega)
  obtain ⟨v,v1,v2,v3⟩:=yM (a:=a) (i:=x+j) (by omega)
  try dsimp only at hB ⊢
  rw [v1] at hB
  rw [u1]
  try dsimp only at hB ⊢
  cases e:lt (kf u) (kf ke) with
  | true=>rfl
  | false=>
   have h1:le lt kf ke u:=e
   have:=le_trans O h1 (sa i j u v hij hj u2 v2)
   unfold le at this
   rw [this] at hB;cases hB
 ·refine q k hkn (fun i e hi he=>?_) fun i e hi hin he=>?_
  ·have:=h1 i hi
   try dsimp only at this
   rw [←Array.getElem?_toList,he] at this
   exact this
  ·have:=h2 i hi hin
   try dsimp only at this
   rw [←Array.getElem?_toList,he] at this
   exact this
theorem zpu (O:Srt.Ord lt) {a:Array Keyed} (sa:Sd lt kf a.toList) (x:Nat): ∀i j u v,i≤j→j < a.size - x→a.toList[x+i]? =some u→a.toList[x+j]? =some v→le lt kf u v:=fun i j u v hij _ h1 h2=>sa.at O (by omega) h1 h2
theorem zdd {l:List Keyed} {x k n:Nat} {z:Keyed} (hl:l.length≤x+n) (hz:z∈l.drop (x+k)): ∃i,k≤i∧i < n∧l[x+i]? =some z:=by
 obtain ⟨j,hj⟩:=List.mem_iff_getElem?.mp hz
 rw [List.getElem?_drop] at hj
 have:=(List.getElem?_eq_some_iff.mp hj).1
 exact ⟨k+j,by omega,by omega,by rw [←hj];congr 1;omega⟩
theorem yZ {α:Type} {c:Prop} [Decidable c] {p q:StateT SortSt Sem α} {Q:α→SortSt→Prop} {st:SortSt} (hp:c→wpS (model prog w) A E s p Q st) (hq: ¬c→wpS (model prog w) A E s q Q st):wpS (model prog w) A E s (if c then p else q) Q st:=by
 by_cases h:c
 ·rw [if_pos h];exact hp h
 ·rw [if_neg h];exact hq h
abbrev LS:=Option (Array Keyed)×Array Keyed×Nat×Nat×Nat×Nat×Nat
noncomputable def lo1 (a b o:Array Keyed) (x y g ca cb:Nat):StateT SortSt Sem (ForInStep LS):=do
 let u ←elem' a x
 if x+1+1==a.size then
  pure (.done (some (o.push u++b.extract y b.size++a.extract (x+1) a.size),o.push u,x+1,y,g,ca,cb))
 else if ca < 7 && cb < 7 then
  pure (.done (none,o.push u,x+1,y,g,ca,cb))
 else
  pure (.yield (none,o.push u,x+1,y,g,ca,cb))
def lo2 (a b o:Array Keyed) (x y g ca cb:Nat):StateT SortSt Sem (ForInStep LS):=do
 let v ←elem' b y
 if y+1==b.size then
  pure (.done (some (o.push v++a.extract x a.size++b.extract (y+1) b.size),o.push v,x,y+1,g,ca,cb))
 else
  let u ←elem' a x
  let r ←qI true u b (y+1) (b.size - (y+1)) 0
  match r with
  | some k=>
   if k > 0 then
    if y+1+k==b.size then
     pure (.done (some (o.push v++b.extract (y+1) (y+1+k)++a.extract x a.size++b.extract (y+1+k) b.size),o.push v++b.extract (y+1) (y+1+k),x,y+1+k,g,ca,k))
    else lo1 a b (o.push v++b.extract (y+1) (y+1+k)) x (y+1+k) g ca k
   else lo1 a b (o.push v) x (y+1) g ca k
  | _=>pure (.done (some (o.push v++a.extract x a.size++b.extract (y+1) b.size),o.push v,x,y+1,g,ca,cb))
def lo3 (a b o:Array Keyed) (x y g ca cb:Nat):StateT SortSt Sem (ForInStep LS):=do
 sgP g
 let v ←elem' b y
 let r ←qI false v a x (a.size - x) 0
 match r with
 | some k=>
  if k > 0 then
   if x+k+1==a.size then
    pure (.done (some (o++a.extract x (x+k)++b.extract y b.size++a.extract (x+k) a.size),o++a.extract x (x+k),x+k,y,g,k,cb))
   else if x+k==a.size then
    pure (.done (some (o++a.extract x (x+k)++a.extract (x+k) a.size++b.extract y b.size),o++a.extract x (x+k),x+k,y,g,k,cb))
   else lo2 a b (o++a.extract x (x+k)) (x+k) y g k cb
  else lo2 a b o x y g k cb
 | _=>pure (.done (some (o++a.extract x a.size++b.extract y b.size),o,x,y,g,ca,cb))
section
variable {a b:Array Keyed} {st:SortSt} {R:ForInStep LS→SortSt→Prop} {N:Nat}
variable (O:Srt.Ord lt) (hc:Cmp prog w A E s lt kf κ0 it) (hk:kindOf st=κ0) (ha: ∀u∈a.toList,u∈it.toList) (hb: ∀u∈b.toList,u∈it.toList) (sa:Sd lt kf a.toList) (sb:Sd lt kf b.toList) (last: ∀{o:Array Keyed} {x y:Nat},Mi lt kf a b o x y→x+1=a.size→Rs lt kf a b (o++b.extract y b.size++a.extract x a.size)) (hd: ∀o x y g ca cb r g',Rs lt kf a b r→R (.done (some r,o,x,y,g,ca,cb)) (zG st g')) (hn: ∀o x y g ca cb g',Mi lt kf a b o x y→x+1 < a.size→y < b.size→N≤x+y→R (.done (none,o,x,y,g,ca,cb)) (zG st g')∧R (.yield (none,o,x,y,g,ca,cb)) (zG st g'))
include O hc hk ha hb sa sb last hd hn
theorem zsk {o:Array Keyed} {x y g ca cb g':Nat} (hM:Mi lt kf a b o x y) (hx:x+1 < a.size) (hy:y < b.size) (hN:N≤x+y) (hu: ∀u,a.toList[x]? =some u→∀z∈b.toList.drop y,le lt kf u z):wpS (model prog w) A E s (lo1 a b o x y g ca cb) R (zG st g'):=by
 obtain ⟨u,u1,u2,u3⟩:=yM (a:=a) (i:=x) (by omega)
 refine wpS_bind (yJ u1 ?_)
 have hT:=hM.a O sa u2 (hu u u2)
 split
 ·rename_i ex
  exact wpS_pure (hd _ _ _ _ _ _ _ _ (last hT (beq_iff_eq.mp ex)))
 ·rename_i ex
  have n3: ¬(x+1+1=a.size):=fun z=>ex (beq_iff_eq.mpr z)
  have:=hn _ _ _ g ca cb g' hT (by omega) hy (by omega)
  split
  ·exact wpS_pure this.1
  ·exact wpS_pure this.2
theorem zsl {o:Array Keyed} {x y g ca cb g':Nat} (hM:Mi lt kf a b o x y) (hx:x+1 < a.size) (hy:y < b.size) (hN:N≤x+y) (hv: ∀v,b.toList[y]? =some v→∀z∈a.toList.drop x,le lt kf v z):wpS (model prog w) A E s (lo2 a b o x y g ca cb) R (zG st g'):=by
 obtain ⟨v,v1,v2,v3⟩:=yM (a:=b) (i:=y) hy
 obtain ⟨u,u1,u2,u3⟩:=yM (a:=a) (i:=x) (by omega)
 refine wpS_bind (yJ v1 ?_)
 have hP:=hM.b O sb v2 (hv v v2)
 by_cases ey:(y+1==b.size)=true
 ·rw [if_pos ey]
  exact wpS_pure (hd _ _ _ _ _ _ _ _ (hP.done sa sb (.inr (beq_iff_eq.mp ey))))
 rw [if_neg ey]
 have ey': ¬y+1=b.size:=fun z=>ey (beq_iff_eq.mpr z)
 refine wpS_bind (yJ u1 (wpS_bind (zh9 O hc hk (ha u u3) hb (by omega) (by omega) (zpu O sb _) fun m hmn m1 m2=>?_)))
 dsimp only
 have hu: ∀z∈b.toList.drop (y+1+m),le lt kf u z:=fun z hz=>by
  obtain ⟨i,i1,i2,i3⟩:=zdd (n:=b.size - (y+1)) (by rw [Array.length_toList];omega) hz
  exact m2 i z i1 i2 i3
 by_cases hm0:m > 0
 ·have hR:=hP.bs O sb m (by omega) fun i e hi he z hz=>le_trans O (zi5 O (m1 i e hi he)) (sa.drop O u2 hz)
  rw [if_pos hm0]
  by_cases ey2:(y+1+m==b.size)=true
  ·rw [if_pos ey2]
   exact wpS_pure (hd _ _ _ _ _ _ _ _ (hR.done sa sb (.inr (beq_iff_eq.mp ey2))))
  ·rw [if_neg ey2]
   have n1: ¬y+1+m=b.size:=fun z=>ey2 (beq_iff_eq.mpr z)
   exact zsk O hc hk ha hb sa sb last hd hn hR hx (by omega) (by omega) fun u' h'=>by rw [u2] at h';cases h';exact hu
 ·have hm0':m=0:=by omega
  rw [if_neg hm0]
  rw [hm0',Nat.add_zero] at hu
  exact zsk O hc hk ha hb sa sb last hd hn hP hx (by omega) (by omega) fun u' h'=>by rw [u2] at h';cases h';exact hu
theorem zxy {o:Array Keyed} {x y g ca cb g':Nat} (hM:Mi lt kf a b o x y) (hx:x+1 < a.size) (hy:y < b.size) (hN:N≤x+y):wpS (model prog w) A E s (lo3 a b o x y g ca cb) R (zG st g'):=by
 obtain ⟨v,v1,v2,v3⟩:=yM (a:=b) (i:=y) hy
 refine wpS_bind ?_
 rw [zmg]
 refine wpS_modify ?_
 refine wpS_bind (yJ v1 (wpS_bind (ziu O hc hk (hb v v3) ha (by omega) (by omega) (zpu O sa x) fun k hkn k1 k2=>?_)))
 dsimp only
 have hv: ∀z∈a.toList.drop (x+k),le lt kf v z:=fun z hz=>by
  obtain ⟨i,i1,i2,i3⟩:=zdd (n:=a.size - x) (by rw [Array.length_toList];omega) hz
  exact zi5 O (k2 i z i1 i2 i3)
 by_cases hk0:k > 0
 ·have hP:Mi lt kf a b (o++a.extract x (x+k)) (x+k) y:=hM.as O sa k (by omega) fun i e hi he z hz=>le_trans O (k1 i e hi he) (sb.drop O v2 hz)
  rw [if_pos hk0]
  by_cases ex:(x+k+1==a.size)=true
  ·rw [if_pos ex]
   exact wpS_pure (hd _ _ _ _ _ _ _ g (last hP (beq_iff_eq.mp ex)))
  rw [if_neg ex]
  by_cases ex2:(x+k==a.size)=true
  ·rw [if_pos ex2]
   exact wpS_pure (hd _ _ _ _ _ _ _ g (hP.done sa sb (.inl (beq_iff_eq.mp ex2))))
  rw [if_neg ex2]
  have n1: ¬x+k+1=a.size:=fun z=>ex (beq_iff_eq.mpr z)
  have n2: ¬x+k=a.size:=fun z=>ex2 (beq_iff_eq.mpr z)
  exact zsl O hc hk ha hb sa sb last hd hn (g':=g) hP (by omega) hy (by omega) fun v' h'=>by rw [v2] at h';cases h';exact hv
 ·rw [if_neg hk0]
  have hk0':k=0:=by omega
  rw [hk0',Nat.add_zero] at hv
  exact zsl O hc hk ha hb sa sb last hd hn (g':=g) hM hx hy hN fun v' h'=>by rw [v2] at h';cases h';exact hv
end
theorem ztu (O:Srt.Ord lt) (hc:Cmp prog w A E s lt kf κ0 it) {a b:Array Keyed} {Q:Array Keyed→SortSt→Prop} {st:SortSt} (hk:kindOf st=κ0) (ha: ∀u∈a.toList,u∈it.toList) (hb: ∀u∈b.toList,u∈it.toList) (sa:Sd lt kf a.toList) (sb:Sd lt kf b.toList)
  (a1:1≤a.size) (b1:1≤b.size) (hf: ∀e,b.toList[0]? =some e→∀v∈a.toList,le lt kf e v) (hl: ∀v∈b.toList,∀e,a.toList[a.size - 1]? =some e→le lt kf v e)
  (q: ∀r g,Rs lt kf a b r→Q r (zG st g)):wpS (model prog w) A E s (mloP a b) Q st:=by
 have last: ∀{o:Array Keyed} {x y:Nat},Mi lt kf a b o x y→x+1=a.size→Rs lt kf a b (o++b.extract y b.size++a.extract x a.size):=fun {o x y} h hx=>h.last sa sb fun v hv e he=>by
  obtain ⟨e',h1,h2,h3⟩:=yM (a:=a) (i:=x) (by omega)
  have ed:=zgf h2
  rw [ed,List.drop_eq_nil_of_le (by rw [Array.length_toList];omega)] at he
  rw [List.mem_singleton.mp he]
  exact hl v (List.mem_of_mem_drop hv) e' (by rw [show a.size - 1=x by omega];exact h2)
 obtain ⟨f0,f1,f2,f3⟩:=yM (a:=b) (i:=0) (by omega)
 have m0:Mi lt kf a b #[f0] 0 1:=by
  refine ⟨?_,List.pairwise_singleton _ _,fun u hu v hv=>?_,fun u hu v hv=>?_⟩
  ·rw [List.take_zero,List.nil_append,List.take_add_one,f2,List.take_zero];exact List.Perm.refl _
  ·rw [List.mem_singleton.mp hu];exact hf f0 f2 v (by rw [List.drop_zero] at hv;exact hv)
  ·rw [List.mem_singleton.mp hu]
   exact sb.drop O (i:=0) f2 (by rw [List.drop_zero];exact List.mem_of_mem_drop hv)
 rw [zvf]
 refine wpS_bind (zd4 ?_)
 refine wpS_bind (yJ f1 ?_)
 have q0: ∀r,Rs lt kf a b r→Q r st:=fun r hr=>q r (gallopOf st) hr
 refine yZ (fun hb1=>wpS_pure (q0 _ (m0.done sa sb (.inr (beq_iff_eq.mp hb1))))) fun hb1=>?_
 have hb1': ¬1=b.size:=fun z=>hb1 (beq_iff_eq.mpr z)
 refine yZ (fun ha1=>wpS_pure (q0 _ (last m0 (beq_iff_eq.mp ha1)))) fun ha1=>?_
 have ha1': ¬0+1=a.size:=fun z=>ha1 (beq_iff_eq.mpr z)
 refine wpS_bind (wpS_get ?_)
 refine wpS_bind (wpS_mono (wpS_forRange (I:=fun i c st'=> ∃o x y g,c=(none,o,x,y,g)∧(∃g',st'=zG st g')∧Mi lt kf a b o x y∧x+1 < a.size∧y < b.size∧i+1≤x+y)
  (Q:=fun c st'=> ∃r d g',c=(some r,d)∧st'=zG st g'∧Rs lt kf a b r) ?step ?fin ?init) ?post)
 case init=>exact ⟨_,_,_,_,rfl,⟨gallopOf st,rfl⟩,m0,by omega,by omega,by omega⟩
 case fin=>
  rintro c st' ⟨o,x,y,g,rfl,_,_,h1,h2,h3⟩
  omega
 case post=>
  rintro c st' ⟨r,d,g',rfl,rfl,hr⟩
  exact wpS_pure (q r g' hr)
 case step=>
  rintro i c st' _ hi ⟨o,x,y,g,rfl,⟨g0,rfl⟩,hM,hx,hy,hxy⟩
  refine wpS_bind (wpS_mono (wpS_forRange (I:=fun j c st'=> ∃o' x' y' ca cb,c=(none,o',x',y',ca,cb)∧st'=zG st g0∧Mi lt kf a b o' x' y'∧x'+1 < a.size∧y' < b.size∧x+y+j≤x'+y')
   (Q:=fun c st'=>st'=zG st g0∧((∃r d,c=(some r,d)∧Rs lt kf a b r)∨∃o' x' y' ca cb,c=(none,o',x',y',ca,cb)∧Mi lt kf a b o' x' y'∧x'+1 < a.size∧y' < b.size∧x+y+1≤x'+y')) ?_ ?_ ?_) ?_)
  ·rintro j c st' _ hj ⟨o',x',y',ca,cb,rfl,rfl,hM',hx',hy',hxy'⟩
   obtain ⟨u,u1,u2,u3⟩:=yM (a:=a) (i:=x') (by omega)
   obtain ⟨v,v1,v2,v3⟩:=yM (a:=b) (i:=y') (by omega)
   refine wpS_bind (yJ v1 (wpS_bind (yJ u1 (wpS_bind (hc v u _ _ (hb v v3) (ha u u3) hk ?_)))))
   cases e:lt (kf v) (kf u) with
   | true=>
    refine yZ (fun _=>?_) (fun h=>absurd rfl h)
    refine wpS_bind (yJ v1 ?_)
    have hN:=hM'.b O sb v2 fun z hz=>le_trans O (zi5 O e) (sa.drop O u2 hz)
    refine yZ (fun ey=>wpS_pure ⟨rfl,.inl ⟨_,_,rfl,hN.done sa sb (.inr (beq_iff_eq.mp ey))⟩⟩) fun ey=>?_
    have ey': ¬y'+1=b.size:=fun z=>ey (beq_iff_eq.mpr z)
    exact yZ (fun _=>wpS_pure ⟨rfl,.inr ⟨_,x',y'+1,_,_,rfl,hN,hx',by omega,by omega⟩⟩) fun _=>wpS_pure ⟨_,x',y'+1,_,_,rfl,rfl,hN,hx',by omega,by omega⟩
   | false=>
    refine yZ (fun h=>absurd h Bool.false_ne_true) (fun _=>?_)
    refine wpS_bind (yJ u1 ?_)
    have hN:=hM'.a O sa u2 fun z hz=>le_trans O (show le lt kf u v from e) (sb.drop O v2 hz)
    refine yZ (fun ex=>wpS_pure ⟨rfl,.inl ⟨_,_,rfl,last hN (beq_iff_eq.mp ex)⟩⟩) fun ex=>?_
    have ex': ¬x'+1+1=a.size:=fun z=>ex (beq_iff_eq.mpr z)
    exact yZ (fun _=>wpS_pure ⟨rfl,.inr ⟨_,x'+1,y',_,_,rfl,hN,by omega,hy',by omega⟩⟩) fun _=>wpS_pure ⟨_,x'+1,y',_,_,rfl,rfl,hN,by omega,hy',by omega⟩
  ·rintro c st' ⟨o',x',y',ca,cb,rfl,rfl,hM',hx',hy',hxy'⟩
   omega
  ·exact ⟨o,x,y,_,_,rfl,rfl,hM,hx,hy,by omega⟩
  ·rintro c st' ⟨rfl,⟨r,d,rfl,hr⟩ | ⟨o',x',y',ca,cb,rfl,hM',hx',hy',hxy'⟩⟩
   ·exact wpS_pure ⟨r,_,g0,rfl,rfl,hr⟩
   ·refine wpS_bind (zd4 ?_)
    refine wpS_bind (wpS_mono (wpS_forRange (I:=fun j c st'=> ∃o' x' y' g1 ca cb,c=(none,o',x',y',g1,ca,cb)∧(∃g',st'=zG st g')∧Mi lt kf a b o' x' y'∧x'+1 < a.size∧y' < b.size∧x+y+1≤x'+y')
     (Q:=fun c st'=>(∃g',st'=zG st g')∧((∃r d,c=(some r,d)∧Rs lt kf a b r)∨∃o' x' y' g1 ca cb,c=(none,o',x',y',g1,ca,cb)∧Mi lt kf a b o' x' y'∧x'+1 < a.size∧y' < b.size∧x+y+1≤x'+y')) ?_ ?_ ?_) ?_)
    ·rintro j c st' _ hj ⟨o',x',y',g1,ca,cb,rfl,⟨g',rfl⟩,hM',hx',hy',hxy'⟩
     have key:=fun g2 (R:ForInStep LS→SortSt→Prop) h1 h2=>zxy (R:=R) (ca:=ca) (cb:=cb) (g:=g2) (g':=g') O hc hk ha hb sa sb last h1 h2 hM' hx' hy' hxy'
     exact yZ (fun _=>key (g1 - 1) _ (fun o x y g ca cb r g' hr=>⟨⟨_,rfl⟩,.inl ⟨_,_,rfl,hr⟩⟩) (fun o x y g ca cb g' h1 h2 h3 h4=>⟨⟨⟨_,rfl⟩,.inr ⟨_,_,_,_,_,_,rfl,h1,h2,h3,h4⟩⟩,⟨_,_,_,_,_,_,rfl,⟨_,rfl⟩,h1,h2,h3,h4⟩⟩)) fun _=>key g1 _ (fun o x y g ca cb r g' hr=>⟨⟨_,rfl⟩,.inl ⟨_,_,rfl,hr⟩⟩) (fun o x y g ca cb g' h1 h2 h3 h4=>⟨⟨⟨_,rfl⟩,.inr ⟨_,_,_,_,_,_,rfl,h1,h2,h3,h4⟩⟩,⟨_,_,_,_,_,_,rfl,⟨_,rfl⟩,h1,h2,h3,h4⟩⟩)
    ·rintro c st' ⟨o',x',y',g1,ca,cb,rfl,hst,hM',hx',hy',hxy'⟩
     exact ⟨hst,.inr ⟨_,_,_,_,_,_,rfl,hM',hx',hy',hxy'⟩⟩
    ·exact ⟨_,_,_,_,_,_,rfl,⟨g0,rfl⟩,hM',hx',hy',hxy'⟩
    ·rintro c st' ⟨⟨g',rfl⟩,⟨r,d,rfl,hr⟩ | ⟨o',x',y',g1,ca,cb,rfl,hM',hx',hy',hxy'⟩⟩
     ·exact wpS_pure ⟨r,_,g',rfl,rfl,hr⟩
     ·refine wpS_bind ?_
      rw [zmg]
      refine wpS_modify (wpS_pure ⟨o',x',y',_,rfl,⟨_,rfl⟩,hM',hx',hy',by omega⟩)
end
def mhiP:Array Keyed→Array Keyed→StateT SortSt Sem (Array Keyed):=sortPriv% PySem.Builtin.mergeHi
theorem zvy (a b:Array Keyed):mhiP a b=(do
 rule "list.sort.merge-hi"
 let tot:=a.size+b.size
 let dn (o:Array Keyed) (x y:Nat):=a.extract 0 x++b.extract 0 y++o.reverse
 let fb (o:Array Keyed) (x y:Nat):=b.extract 0 y++a.extract 0 x++o.reverse
 let mut x:=a.size - 1
 let mut y:=b.size
 let mut o:Array Keyed:= #[←elem' a x]
 if x==0 then
  return dn o x y
 if y==1 then
  return fb o x y
 let mut g:=gallopOf (←get)
 for _ in [0:tot] do
  let mut ca:=0
  let mut cb:=0
  for _ in [0:tot] do
   let some aw ←lt' (←elem' b (y - 1)) (←elem' a (x - 1))
    | return dn o x y
   if aw then
    x:=x - 1
    o:=o.push (←elem' a x)
    ca:=ca+1
    cb:=0
    if x==0 then
     return dn o x y
    if ca≥g then break
   else
    y:=y - 1
    o:=o.push (←elem' b y)
    cb:=cb+1
    ca:=0
    if y==1 then
     return fb o x y
    if cb≥g then break
  rule "list.sort.gallop"
  g:=g+1
  for _ in [0:tot] do
   if g > 1 then g:=g - 1
   sgP g
   let some p ←qI false (←elem' b (y - 1)) a 0 x (x - 1)
    | return dn o x y
   let k:=x - p
   ca:=k
   if k > 0 then
    o:=o++(a.extract p x).reverse
    x:=p
    if x==0 then
     return dn o x y
   y:=y - 1
   o:=o.push (←elem' b y)
   if y==1 then
    return fb o x y
   let some p ←qI true (←elem' a (x - 1)) b 0 y (y - 1)
    | return dn o x y
   let k:=y - p
   cb:=k
   if k > 0 then
    o:=o++(b.extract p y).reverse
    y:=p
    if y==1 then
     return fb o x y
    if y==0 then
     return dn o x y
   x:=x - 1
   o:=o.push (←elem' a x)
   if x==0 then
    return dn o x y
   if ca < 7 && cb < 7 then break
  g:=g+1
  sgP g
 unsupported "internal:list.sort.merge-bound"):=rfl
section
variable {κt:Type} {lt:κt→κt→Bool} {kf:Keyed→κt}
theorem Sd.take (O:Srt.Ord lt) {l:List Keyed} (h:Sd lt kf l) {i:Nat} {u v:Keyed} (hi:l[i]? =some u) (hv:v∈l.take (i+1)):le lt kf v u:=by
 obtain ⟨j,hj⟩:=List.mem_iff_getElem?.mp hv
 have hjl:j < i+1:=by
  have:=(List.getElem?_eq_some_iff.mp hj).1
  rw [List.length_take] at this;omega
 rw [List.getElem?_take_of_lt hjl] at hj
 exact h.at O (by omega) hj hi
theorem zp5 {l:List Keyed} {i:Nat} {u:Keyed} (h:l[i]? =some u):l.take (i+1)=l.take i++[u]:=by rw [List.take_add_one,h];rfl
structure Mh (lt:κt→κt→Bool) (kf:Keyed→κt) (a b o:Array Keyed) (x y:Nat):Prop where
 perm:o.toList.reverse.Perm (a.toList.drop x++b.toList.drop y)
 sort:Sd lt kf o.toList.reverse
 ua: ∀u∈o.toList,∀v∈a.toList.take x,le lt kf v u
 ub: ∀u∈o.toList,∀v∈b.toList.take y,le lt kf v u
theorem Mh.swap {a b o:Array Keyed} {x y:Nat} (h:Mh lt kf a b o x y):Mh lt kf b a o y x:=⟨h.perm.trans List.perm_append_comm,h.sort,h.ub,h.ua⟩
theorem Mh.a (O:Srt.Ord lt) {a b o:Array Keyed} {x y:Nat} {e:Keyed} (h:Mh lt kf a b o (x+1) y) (sa:Sd lt kf a.toList) (hx:a.toList[x]? =some e) (hb: ∀v∈b.toList.take y,le lt kf v e):Mh lt kf a b (o.push e) x y:=by
 have et:=zp5 hx
 refine ⟨?_,?_,fun u hu v hv=>?_,fun u hu v hv=>?_⟩
 ·rw [Array.toList_push,List.reverse_append,zgf hx]
  exact h.perm.cons e
 ·rw [Array.toList_push,List.reverse_append]
  refine List.pairwise_cons.mpr ⟨fun v hv=>?_,h.sort⟩
  exact h.ua v (List.mem_reverse.mp hv) e (by rw [et];exact List.mem_append_right _ (List.mem_singleton.mpr rfl))
 ·rw [Array.toList_push] at hu
  rcases List.mem_append.mp hu with hu | hu
  ·exact h.ua u hu v (by rw [et];exact List.mem_append_left _ hv)
  ·rw [List.mem_singleton.mp hu]
   exact sa.take O hx (by rw [et];exact List.mem_append_left _ hv)
 ·rw [Array.toList_push] at hu
  rcases List.mem_append.mp hu with hu | hu
  ·exact h.ub u hu v hv
  ·rw [List.mem_singleton.mp hu];exact hb v hv
theorem Mh.b (O:Srt.Ord lt) {a b o:Array Keyed} {x y:Nat} {e:Keyed} (h:Mh lt kf a b o x (y+1)) (sb:Sd lt kf b.toList) (hy:b.toList[y]? =some e) (ha: ∀v∈a.toList.take x,le lt kf v e):Mh lt kf a b (o.push e) x y:=(h.swap.a O sb hy ha).swap
theorem zvb {a o:Array Keyed} {x k:Nat} {e:Keyed} (h:a.toList[x+k]? =some e):o++(a.extract x (x+(k+1))).reverse=o.push e++(a.extract x (x+k)).reverse:=by
 apply Array.ext'
 rw [Array.toList_append,Array.toList_append,Array.toList_push,Array.toList_reverse,Array.toList_reverse,Array.toList_extract,Array.toList_extract,List.append_assoc]
 congr 1
 rw [List.extract_eq_take_drop,List.extract_eq_take_drop,show x+(k+1) - x=k+1 by omega,show x+k - x=k by omega,List.take_add_one,List.getElem?_drop,h,List.reverse_append];rfl
theorem Mh.asK (O:Srt.Ord lt) {a b:Array Keyed} {x y:Nat} (sa:Sd lt kf a.toList): ∀(k:Nat) {o:Array Keyed},Mh lt kf a b o (x+k) y→x+k≤a.size→(∀i e,x≤i→i < x+k→a.toList[i]? =some e→∀v∈b.toList.take y,le lt kf v e)→Mh lt kf a b (o++(a.extract x (x+k)).reverse) x y
 | 0,o,h,_,_=>by
  have e:o++(a.extract x (x+0)).reverse=o:=by
   apply Array.ext'
   rw [Array.toList_append,Array.toList_reverse,Array.toList_extract,List.extract_eq_take_drop,show x+0 - x=0 by omega,List.take_zero,List.reverse_nil,List.append_nil]
  rw [e];exact h
 | k+1,o,h,hk,hb=>by
  have hl:x+k < a.toList.length:=by rw [Array.length_toList];omega
  have he:a.toList[x+k]? =some (a.toList[x+k]):=zy hl
  rw [zvb he]
  exact Mh.asK O sa k (Mh.a O h sa he (hb (x+k) _ (by omega) (by omega) he)) (by omega) fun i e h1 h2=>hb i e h1 (by omega)
theorem Mh.as (O:Srt.Ord lt) {a b o:Array Keyed} {x n y:Nat} (h:Mh lt kf a b o n y) (sa:Sd lt kf a.toList) (hx:x≤n) (hn:n≤a.size) (hb: ∀i e,x≤i→i < n→a.toList[i]? =some e→∀v∈b.toList.take y,le lt kf v e):Mh lt kf a b (o++(a.extract x n).reverse) x y:=by
 obtain ⟨k,rfl⟩: ∃k,n=x+k:=⟨n - x,by omega⟩
 exact Mh.asK O sa k h hn hb
theorem Mh.bs (O:Srt.Ord lt) {a b o:Array Keyed} {x n y:Nat} (h:Mh lt kf a b o x n) (sb:Sd lt kf b.toList) (hy:y≤n) (hn:n≤b.size) (ha: ∀i e,y≤i→i < n→b.toList[i]? =some e→∀v∈a.toList.take x,le lt kf v e):Mh lt kf a b (o++(b.extract y n).reverse) x y:=(h.swap.as O sb hy hn ha).swap
theorem zs5 (a:Array Keyed) (x:Nat):(a.extract 0 x).toList=a.toList.take x:=by
 rw [Array.toList_extract,List.extract_eq_take_drop,List.drop_zero,Nat.sub_zero]
theorem Mh.fin {a b o:Array Keyed} {x y:Nat} (h:Mh lt kf a b o x y) (sa:Sd lt kf a.toList) (sb:Sd lt kf b.toList) (hz: ∀v∈a.toList.take x,∀u∈b.toList.take y,le lt kf v u):Rs lt kf a b (a.extract 0 x++b.extract 0 y++o.reverse):=by
 unfold Rs
 rw [Array.toList_append,Array.toList_append,zs5,zs5,Array.toList_reverse]
 constructor
 ·refine (h.perm.append_left _).trans ?_
  have e1:=List.take_append_drop x a.toList
  have e2:=List.take_append_drop y b.toList
  rw [List.append_assoc,←List.append_assoc (b.toList.take y)]
  refine ((List.perm_append_comm.append_right (b.toList.drop y)).append_left (a.toList.take x)).trans ?_
  rw [List.append_assoc,←List.append_assoc,e1,e2]
 ·refine List.pairwise_append.mpr ⟨List.pairwise_append.mpr ⟨List.Pairwise.take sa,List.Pairwise.take sb,fun u hu v hv=>hz u hu v hv⟩,h.sort,fun u hu v hv=>?_⟩
  rcases List.mem_append.mp hu with hu | hu
  ·exact h.ua v (List.mem_reverse.mp hv) u hu
  ·exact h.ub v (List.mem_reverse.mp hv) u hu
theorem Mh.done {a b o:Array Keyed} {x y:Nat} (h:Mh lt kf a b o x y) (sa:Sd lt kf a.toList) (sb:Sd lt kf b.toList) (hz:x=0∨y=0):Rs lt kf a b (a.extract 0 x++b.extract 0 y++o.reverse):=h.fin sa sb fun v hv u hu=>by
 rcases hz with rfl | rfl
 ·rw [List.take_zero] at hv;cases hv
 ·rw [List.take_zero] at hu;cases hu
end
section
variable {prog:Program} {w:World} {A:Around} {E:Value→Shared→Prop} {s:Shared} {κt:Type} {lt:κt→κt→Bool} {kf:Keyed→κt} {κ0:SortKind} {it:Array Keyed}
theorem zmc (O:Srt.Ord lt) {a:Array Keyed} (sa:Sd lt kf a.toList) (n:Nat): ∀i j u v,i≤j→j < n→a.toList[0+i]? =some u→a.toList[0+j]? =some v→le lt kf u v:=fun i j u v hij _ h1 h2=>sa.at O (by omega) h1 h2
theorem zcs {l:List Keyed} {n:Nat} {z:Keyed} (hz:z∈l.take n): ∃i,i < n∧l[0+i]? =some z:=by
 obtain ⟨j,hj⟩:=List.mem_iff_getElem?.mp hz
 have hjl:j < n:=by
  have:=(List.getElem?_eq_some_iff.mp hj).1
  rw [List.length_take] at this;omega
 rw [List.getElem?_take_of_lt hjl] at hj
 exact ⟨j,hjl,by rw [Nat.zero_add];exact hj⟩
abbrev LSh:=Option (Array Keyed)×Nat×Nat×Array Keyed×Nat×Nat×Nat
noncomputable def hi1 (a b o:Array Keyed) (x y g ca cb:Nat):StateT SortSt Sem (ForInStep LSh):=do
 let u ←elem' a (x - 1)
 if x - 1==0 then
  pure (.done (some (a.extract 0 (x - 1)++b.extract 0 y++(o.push u).reverse),x - 1,y,o.push u,g,ca,cb))
 else if ca < 7 && cb < 7 then
  pure (.done (none,x - 1,y,o.push u,g,ca,cb))
 else
  pure (.yield (none,x - 1,y,o.push u,g,ca,cb))
def hi2 (a b o:Array Keyed) (x y g ca cb:Nat):StateT SortSt Sem (ForInStep LSh):=do
 let v ←elem' b (y - 1)
 if y - 1==1 then
  pure (.done (some (b.extract 0 (y - 1)++a.extract 0 x++(o.push v).reverse),x,y - 1,o.push v,g,ca,cb))
 else
  let u ←elem' a (x - 1)
  let r ←qI true u b 0 (y - 1) (y - 1 - 1)
  match r with
  | some p=>
   if y - 1 - p > 0 then
    if p==1 then
     pure (.done (some (b.extract 0 p++a.extract 0 x++(o.push v++(b.extract p (y - 1)).reverse).reverse),x,p,o.push v++(b.extract p (y - 1)).reverse,g,ca,y - 1 - p))
    else if p==0 then
     pure (.done (some (a.extract 0 x++b.extract 0 p++(o.push v++(b.extract p (y - 1)).reverse).reverse),x,p,o.push v++(b.extract p (y - 1)).reverse,g,ca,y - 1 - p))
    else hi1 a b (o.push v++(b.extract p (y - 1)).reverse) x p g ca (y - 1 - p)
   else hi1 a b (o.push v) x (y - 1) g ca (y - 1 - p)
  | _=>pure (.done (some (a.extract 0 x++b.extract 0 (y - 1)++(o.push v).reverse),x,y - 1,o.push v,g,ca,cb))
def hi3 (a b o:Array Keyed) (x y g ca cb:Nat):StateT SortSt Sem (ForInStep LSh):=do
 sgP g
 let v ←elem' b (y - 1)
 let r ←qI false v a 0 x (x - 1)
 match r with
 | some p=>
  if x - p > 0 then
   if p==0 then
    pure (.done (some (a.extract 0 p++b.extract 0 y++(o++(a.extract p x).reverse).reverse),p,y,o++(a.extract p x).reverse,g,x - p,cb))
   else hi2 a b (o++(a.extract p x).reverse) p y g (x - p) cb
  else hi2 a b o x y g (x - p) cb
 | _=>pure (.done (some (a.extract 0 x++b.extract 0 y++o.reverse),x,y,o,g,ca,cb))
section
variable {a b:Array Keyed} {st:SortSt} {R:ForInStep LSh→SortSt→Prop} {N:Nat}
variable (O:Srt.Ord lt) (hc:Cmp prog w A E s lt kf κ0 it) (hk:kindOf st=κ0) (ha: ∀u∈a.toList,u∈it.toList) (hb: ∀u∈b.toList,u∈it.toList) (sa:Sd lt kf a.toList) (sb:Sd lt kf b.toList) (first: ∀{o:Array Keyed} {x y:Nat},Mh lt kf a b o x y→y=1→Rs lt kf a b (b.extract 0 y++a.extract 0 x++o.reverse)) (hd: ∀o x y g ca cb r g',Rs lt kf a b r→R (.done (some r,x,y,o,g,ca,cb)) (zG st g')) (hn: ∀o x y g ca cb g',Mh lt kf a b o x y→1≤x→2≤y→x≤a.size→y≤b.size→x+y+1≤N→R (.done (none,x,y,o,g,ca,cb)) (zG st g')∧R (.yield (none,x,y,o,g,ca,cb)) (zG st g'))
include O hc hk ha hb sa sb first hd hn
theorem zr9 {o:Array Keyed} {x y g ca cb g':Nat} (hM:Mh lt kf a b o x y) (hx:1≤x) (hy:2≤y) (hxa:x≤a.size) (hyb:y≤b.size) (hN:x+y+1≤N) (hu: ∀u,a.toList[x - 1]? =some u→∀z∈b.toList.take y,le lt kf z u):wpS (model prog w) A E s (hi1 a b o x y g ca cb) R (zG st g'):=by
 obtain ⟨u,u1,u2,u3⟩:=yM (a:=a) (i:=x - 1) (by omega)
 refine wpS_bind (yJ u1 ?_)
 have hT:=Mh.a O (x:=x - 1) (by rw [Nat.sub_add_cancel hx];exact hM) sa u2 (hu u u2)
 split
 ·rename_i ex
  exact wpS_pure (hd _ _ _ _ _ _ _ _ (hT.done sa sb (.inl (beq_iff_eq.mp ex))))
 ·rename_i ex
  have n3: ¬(x - 1=0):=fun z=>ex (beq_iff_eq.mpr z)
  have:=hn _ _ _ g ca cb g' hT (by omega) hy (by omega) hyb (by omega)
  split
  ·exact wpS_pure this.1
  ·exact wpS_pure this.2
theorem zsb {o:Array Keyed} {x y g ca cb g':Nat} (hM:Mh lt kf a b o x y) (hx:1≤x) (hy:2≤y) (hxa:x≤a.size) (hyb:y≤b.size) (hN:x+y+1≤N) (hv: ∀v,b.toList[y - 1]? =some v→∀z∈a.toList.take x,le lt kf z v):wpS (model prog w) A E s (hi2 a b o x y g ca cb) R (zG st g'):=by
 obtain ⟨v,v1,v2,v3⟩:=yM (a:=b) (i:=y - 1) (by omega)
 obtain ⟨u,u1,u2,u3⟩:=yM (a:=a) (i:=x - 1) (by omega)
 refine wpS_bind (yJ v1 ?_)
 have hP:=Mh.b O (y:=y - 1) (by rw [show y - 1+1=y by omega];exact hM) sb v2 (hv v v2)
 by_cases ey:(y - 1==1)=true
 ·rw [if_pos ey]
  exact wpS_pure (hd _ _ _ _ _ _ _ _ (first hP (beq_iff_eq.mp ey)))
 rw [if_neg ey]
 have ey': ¬y - 1=1:=fun z=>ey (beq_iff_eq.mpr z)
 refine wpS_bind (yJ u1 (wpS_bind (zh9 O hc hk (ha u u3) hb (by omega) (by omega) (zmc O sb (y - 1)) fun m hmn m1 m2=>?_)))
 dsimp only
 have hu: ∀z∈b.toList.take m,le lt kf z u:=fun z hz=>by
  obtain ⟨i,i1,i3⟩:=zcs hz
  exact zi5 O (m1 i z i1 i3)
 by_cases hm0:y - 1 - m > 0
 ·have hR:=hP.bs O sb hmn (by omega) fun i e i1 i2 he z hz=>le_trans O (sa.take O u2 (by rw [Nat.sub_add_cancel hx];exact hz)) (m2 i e i1 i2 (by rw [Nat.zero_add];exact he))
  rw [if_pos hm0]
  by_cases ey2:(m==1)=true
  ·rw [if_pos ey2]
   exact wpS_pure (hd _ _ _ _ _ _ _ _ (first hR (beq_iff_eq.mp ey2)))
  rw [if_neg ey2]
  by_cases ey3:(m==0)=true
  ·rw [if_pos ey3]
   exact wpS_pure (hd _ _ _ _ _ _ _ _ (hR.done sa sb (.inr (beq_iff_eq.mp ey3))))
  rw [if_neg ey3]
  have n1: ¬m=1:=fun z=>ey2 (beq_iff_eq.mpr z)
  have n2: ¬m=0:=fun z=>ey3 (beq_iff_eq.mpr z)
  exact zr9 O hc hk ha hb sa sb first hd hn hR hx (by omega) hxa (by omega) (by omega) fun u' h'=>by rw [u2] at h';cases h';exact hu
 ·have hm0':m=y - 1:=by omega
  rw [if_neg hm0]
  rw [hm0'] at hu
  exact zr9 O hc hk ha hb sa sb first hd hn hP hx (by omega) hxa (by omega) (by omega) fun u' h'=>by rw [u2] at h';cases h';exact hu
theorem zxs {o:Array Keyed} {x y g ca cb g':Nat} (hM:Mh lt kf a b o x y) (hx:1≤x) (hy:2≤y) (hxa:x≤a.size) (hyb:y≤b.size) (hN:x+y+1≤N):wpS (model prog w) A E s (hi3 a b o x y g ca cb) R (zG st g'):=by
 obtain ⟨v,v1,v2,v3⟩:=yM (a:=b) (i:=y - 1) (by omega)
 refine wpS_bind ?_
 rw [zmg]
 refine wpS_modify ?_
 refine wpS_bind (yJ v1 (wpS_bind (ziu O hc hk (hb v v3) ha (by omega) (by omega) (zmc O sa x) fun p hpn k1 k2=>?_)))
 dsimp only
 have hv: ∀z∈a.toList.take p,le lt kf z v:=fun z hz=>by
  obtain ⟨i,i1,i3⟩:=zcs hz
  exact k1 i z i1 i3
 by_cases hk0:x - p > 0
 ·have hP:Mh lt kf a b (o++(a.extract p x).reverse) p y:=hM.as O sa hpn hxa fun i e i1 i2 he z hz=>le_trans O (sb.take O v2 (by rw [show y - 1+1=y by omega];exact hz)) (zi5 O (k2 i e i1 i2 (by rw [Nat.zero_add];exact he)))
  rw [if_pos hk0]
  by_cases ex:(p==0)=true
  ·rw [if_pos ex]
   exact wpS_pure (hd _ _ _ _ _ _ _ g (hP.done sa sb (.inl (beq_iff_eq.mp ex))))
  rw [if_neg ex]
  have n1: ¬p=0:=fun z=>ex (beq_iff_eq.mpr z)
  exact zsb O hc hk ha hb sa sb first hd hn (g':=g) hP (by omega) hy (by omega) hyb (by omega) fun v' h'=>by rw [v2] at h';cases h';exact hv
 ·rw [if_neg hk0]
  have hp0:p=x:=by omega
  rw [hp0] at hv
  exact zsb O hc hk ha hb sa sb first hd hn (g':=g) hM hx hy hxa hyb hN fun v' h'=>by rw [v2] at h';cases h';exact hv
end
theorem zto (O:Srt.Ord lt) (hc:Cmp prog w A E s lt kf κ0 it) {a b:Array Keyed} {Q:Array Keyed→SortSt→Prop} {st:SortSt} (hk:kindOf st=κ0) (ha: ∀u∈a.toList,u∈it.toList) (hb: ∀u∈b.toList,u∈it.toList) (sa:Sd lt kf a.toList) (sb:Sd lt kf b.toList)
  (a1:1≤a.size) (b1:1≤b.size) (hf: ∀e,b.toList[0]? =some e→∀v∈a.toList,le lt kf e v) (hl: ∀v∈b.toList,∀e,a.toList[a.size - 1]? =some e→le lt kf v e)
  (q: ∀r g,Rs lt kf a b r→Q r (zG st g)):wpS (model prog w) A E s (mhiP a b) Q st:=by
 have first: ∀{o:Array Keyed} {x y:Nat},Mh lt kf a b o x y→y=1→Rs lt kf a b (b.extract 0 y++a.extract 0 x++o.reverse):=fun {o x y} h hy=>(h.swap.fin sb sa fun v hv u hu=>by
  subst hy
  obtain ⟨i,hi,he⟩:=zcs hv
  have:i=0:=by omega
  subst this
  exact hf v he u (List.mem_of_mem_take hu)).swap
 obtain ⟨f0,f1,f2,f3⟩:=yM (a:=a) (i:=a.size - 1) (by omega)
 have m0:Mh lt kf a b #[f0] (a.size - 1) b.size:=by
  refine ⟨?_,List.pairwise_singleton _ _,fun u hu v hv=>?_,fun u hu v hv=>?_⟩
  ·rw [zgf f2,List.drop_eq_nil_of_le (by rw [Array.length_toList];omega),List.drop_eq_nil_of_le (by rw [Array.length_toList];omega)];exact List.Perm.refl _
  ·rw [List.mem_singleton.mp hu]
   exact sa.take O f2 (by rw [zp5 f2];exact List.mem_append_left _ hv)
  ·rw [List.mem_singleton.mp hu];exact hl v (List.mem_of_mem_take hv) f0 f2
 rw [zvy]
 refine wpS_bind (zd4 ?_)
 refine wpS_bind (yJ f1 ?_)
 have q0: ∀r,Rs lt kf a b r→Q r st:=fun r hr=>q r (gallopOf st) hr
 refine yZ (fun hb1=>wpS_pure (q0 _ (m0.done sa sb (.inl (beq_iff_eq.mp hb1))))) fun hb1=>?_
 have hb1': ¬a.size - 1=0:=fun z=>hb1 (beq_iff_eq.mpr z)
 refine yZ (fun ha1=>wpS_pure (q0 _ (first m0 (beq_iff_eq.mp ha1)))) fun ha1=>?_
 have ha1': ¬b.size=1:=fun z=>ha1 (beq_iff_eq.mpr z)
 refine wpS_bind (wpS_get ?_)
 refine wpS_bind (wpS_mono (wpS_forRange (I:=fun i c st'=> ∃o x y g,c=(none,x,y,o,g)∧(∃g',st'=zG st g')∧Mh lt kf a b o x y∧1≤x∧2≤y∧x≤a.size∧y≤b.size∧i+1+(x+y)≤a.size+b.size)
  (Q:=fun c st'=> ∃r d g',c=(some r,d)∧st'=zG st g'∧Rs lt kf a b r) ?step ?fin ?init) ?post)
 case init=>exact ⟨_,_,_,_,rfl,⟨gallopOf st,rfl⟩,m0,by omega,by omega,by omega,by omega,by omega⟩
 case fin=>
  rintro c st' ⟨o,x,y,g,rfl,_,_,h1,h2,h3,h4,h5⟩
  omega
 case post=>
  rintro c st' ⟨r,d,g',rfl,rfl,hr⟩
  exact wpS_pure (q r g' hr)
 case step=>
  rintro i c st' _ hi ⟨o,x,y,g,rfl,⟨g0,rfl⟩,hM,hx,hy,hxa,hyb,hxy⟩
  refine wpS_bind (wpS_mono (wpS_forRange (I:=fun j c st'=> ∃o' x' y' ca cb,c=(none,x',y',o',ca,cb)∧st'=zG st g0∧Mh lt kf a b o' x' y'∧1≤x'∧2≤y'∧x'≤a.size∧y'≤b.size∧x'+y'+j≤x+y)
   (Q:=fun c st'=>st'=zG st g0∧((∃r d,c=(some r,d)∧Rs lt kf a b r)∨∃o' x' y' ca cb,c=(none,x',y',o',ca,cb)∧Mh lt kf a b o' x' y'∧1≤x'∧2≤y'∧x'≤a.size∧y'≤b.size∧x'+y'+1≤x+y)) ?_ ?_ ?_) ?_)
  ·rintro j c st' _ hj ⟨o',x',y',ca,cb,rfl,rfl,hM',hx',hy',hxa',hyb',hxy'⟩
   obtain ⟨u,u1,u2,u3⟩:=yM (a:=a) (i:=x' - 1) (by omega)
   obtain ⟨v,v1,v2,v3⟩:=yM (a:=b) (i:=y' - 1) (by omega)
   refine wpS_bind (yJ v1 (wpS_bind (yJ u1 (wpS_bind (hc v u _ _ (hb v v3) (ha u u3) hk ?_)))))
   cases e:lt (kf v) (kf u) with
   | true=>
    refine yZ (fun _=>?_) (fun h=>absurd rfl h)
    refine wpS_bind (yJ u1 ?_)
    have hN:=Mh.a O (x:=x' - 1) (by rw [show x' - 1+1=x' by omega];exact hM') sa u2 fun z hz=>le_trans O (sb.take O v2 (by rw [show y' - 1+1=y' by omega];exact hz)) (zi5 O e)
    refine yZ (fun ey=>wpS_pure ⟨rfl,.inl ⟨_,_,rfl,hN.done sa sb (.inl (beq_iff_eq.mp ey))⟩⟩) fun ey=>?_
    have ey': ¬x' - 1=0:=fun z=>ey (beq_iff_eq.mpr z)
    exact yZ (fun _=>wpS_pure ⟨rfl,.inr ⟨_,x' - 1,y',_,_,rfl,hN,by omega,hy',by omega,hyb',by omega⟩⟩) fun _=>wpS_pure ⟨_,x' - 1,y',_,_,rfl,rfl,hN,by omega,hy',by omega,hyb',by omega⟩
   | false=>
    refine yZ (fun h=>absurd h Bool.false_ne_true) (fun _=>?_)
    refine wpS_bind (yJ v1 ?_)
    have hN:=Mh.b O (y:=y' - 1) (by rw [show y' - 1+1=y' by omega];exact hM') sb v2 fun z hz=>le_trans O (sa.take O u2 (by rw [show x' - 1+1=x' by omega];exact hz)) (show le lt kf u v from e)
    refine yZ (fun ex=>wpS_pure ⟨rfl,.inl ⟨_,_,rfl,first hN (beq_iff_eq.mp ex)⟩⟩) fun ex=>?_
    have ex': ¬y' - 1=1:=fun z=>ex (beq_iff_eq.mpr z)
    exact yZ (fun _=>wpS_pure ⟨rfl,.inr ⟨_,x',y' - 1,_,_,rfl,hN,hx',by omega,hxa',by omega,by omega⟩⟩) fun _=>wpS_pure ⟨_,x',y' - 1,_,_,rfl,rfl,hN,hx',by omega,hxa',by omega,by omega⟩
  ·rintro c st' ⟨o',x',y',ca,cb,rfl,rfl,hM',hx',hy',hxa',hyb',hxy'⟩
   omega
  ·exact ⟨o,x,y,_,_,rfl,rfl,hM,hx,hy,hxa,hyb,by omega⟩
  ·rintro c st' ⟨rfl,⟨r,d,rfl,hr⟩ | ⟨o',x',y',ca,cb,rfl,hM',hx',hy',hxa',hyb',hxy'⟩⟩
   ·exact wpS_pure ⟨r,_,g0,rfl,rfl,hr⟩
   ·refine wpS_bind (zd4 ?_)
    refine wpS_bind (wpS_mono (wpS_forRange (I:=fun j c st'=> ∃o' x' y' g1 ca cb,c=(none,x',y',o',g1,ca,cb)∧(∃g',st'=zG st g')∧Mh lt kf a b o' x' y'∧1≤x'∧2≤y'∧x'≤a.size∧y'≤b.size∧x'+y'+1≤x+y)
     (Q:=fun c st'=>(∃g',st'=zG st g')∧((∃r d,c=(some r,d)∧Rs lt kf a b r)∨∃o' x' y' g1 ca cb,c=(none,x',y',o',g1,ca,cb)∧Mh lt kf a b o' x' y'∧1≤x'∧2≤y'∧x'≤a.size∧y'≤b.size∧x'+y'+1≤x+y)) ?_ ?_ ?_) ?_)
    ·rintro j c st' _ hj ⟨o',x',y',g1,ca,cb,rfl,⟨g',rfl⟩,hM',hx',hy',hxa',hyb',hxy'⟩
     have key:=fun g2 (R:ForInStep LSh→SortSt→Prop) h1 h2=>zxs (R:=R) (ca:=ca) (cb:=cb) (g:=g2) (g':=g') O hc hk ha hb sa sb first h1 h2 hM' hx' hy' hxa' hyb' hxy'
     exact yZ (fun _=>key (g1 - 1) _ (fun o x y g ca cb r g' hr=>⟨⟨_,rfl⟩,.inl ⟨_,_,rfl,hr⟩⟩) (fun o x y g ca cb g' h1 h2 h3 h4 h5 h6=>⟨⟨⟨_,rfl⟩,.inr ⟨_,_,_,_,_,_,rfl,h1,h2,h3,h4,h5,h6⟩⟩,⟨_,_,_,_,_,_,rfl,⟨_,rfl⟩,h1,h2,h3,h4,h5,h6⟩⟩)) fun _=>key g1 _ (fun o x y g ca cb r g' hr=>⟨⟨_,rfl⟩,.inl ⟨_,_,rfl,hr⟩⟩) (fun o x y g ca cb g' h1 h2 h3 h4 h5 h6=>⟨⟨⟨_,rfl⟩,.inr ⟨_,_,_,_,_,_,rfl,h1,h2,h3,h4,h5,h6⟩⟩,⟨_,_,_,_,_,_,rfl,⟨_,rfl⟩,h1,h2,h3,h4,h5,h6⟩⟩)
    ·rintro c st' ⟨o',x',y',g1,ca,cb,rfl,hst,hr⟩
     exact ⟨hst,.inr ⟨_,_,_,_,_,_,rfl,hr⟩⟩
    ·exact ⟨_,_,_,_,_,_,rfl,⟨g0,rfl⟩,hM',hx',hy',hxa',hyb',hxy'⟩
    ·rintro c st' ⟨⟨g',rfl⟩,⟨r,d,rfl,hr⟩ | ⟨o',x',y',g1,ca,cb,rfl,hM',hx',hy',hxa',hyb',hxy'⟩⟩
     ·exact wpS_pure ⟨r,_,g',rfl,rfl,hr⟩
     ·refine wpS_bind ?_
      rw [zmg]
      refine wpS_modify (wpS_pure ⟨o',x',y',_,rfl,⟨_,rfl⟩,hM',hx',hy',hxa',hyb',by omega⟩)
end
def wr (xs:Array Keyed) (off:Nat) (r:Array Keyed):Array Keyed:=r.toList.zipIdx.foldl (fun a p=>a.setIfInBounds (off+p.2) p.1) xs
theorem zts (i:Nat):mergeAt' i=(do
 let st ←get
 let (some (x,n,pw),some (y,m,_)):=((pendingOf st)[i]?,(pendingOf st)[i+1]?)
  | unsupported "internal:list.sort.pending"
 set (setPending st (((pendingOf st).setIfInBounds i (x,n+m,pw)).eraseIdxIfInBounds (i+1)))
 let some k ←qI false (←elem' (arrOf st) y) (arrOf st) x n 0
  | return false
 let (x,n):=(x+k,n - k)
 if n==0 then
  return true
 let some m ←qI true (←elem' (arrOf st) (x+n - 1)) (arrOf st) y m (m - 1)
  | return false
 if m==0 then
  return true
 let u:=(arrOf st).extract x y
 let v:=(arrOf st).extract y (y+m)
 let z ←if n≤m then mloP u v else mhiP u v
 modify fun st=>setArr st (wr (arrOf st) x z)
 return (failedOf (←get)).isNone):=rfl
theorem zpk: ∀(r:List Keyed) (xs:Array Keyed) (off j:Nat),off+j+r.length≤xs.size→((r.zipIdx j).foldl (fun a p=>a.setIfInBounds (off+p.2) p.1) xs).toList=xs.toList.take (off+j)++r++xs.toList.drop (off+j+r.length)
 | [],xs,off,j,h=>by
  show xs.toList=xs.toList.take (off+j)++[]++xs.toList.drop (off+j+0)
  rw [List.append_nil,Nat.add_zero,List.take_append_drop]
 | e::r,xs,off,j,h=>by
  rw [List.length_cons] at h
  rw [List.zipIdx_cons,List.foldl_cons]
  have ih:=zpk r (xs.setIfInBounds (off+j) e) off (j+1) (by rw [Array.size_setIfInBounds];omega)
  rw [ih,Array.toList_setIfInBounds]
  have hl:off+j < xs.toList.length:=by rw [Array.length_toList];omega
  rw [show off+(j+1)=off+j+1 by omega,List.take_set,List.drop_set_of_lt (by omega),List.take_add_one,zy hl,List.length_cons]
  rw [show off+j+1+r.length=off+j+(r.length+1) by omega]
  congr 1
  rw [List.set_append_right _ _ (by rw [List.length_take];omega),show off+j - (xs.toList.take (off+j)).length=0 by rw [List.length_take];omega]
  simp
theorem zqa {xs r:Array Keyed} {off:Nat} (h:off+r.size≤xs.size):(wr xs off r).toList=xs.toList.take off++r.toList++xs.toList.drop (off+r.size):=by
 unfold wr
 have:=zpk r.toList xs off 0 (by rw [Array.length_toList];omega)
 rw [Nat.add_zero,Array.length_toList] at this
 exact this
section
variable {prog:Program} {w:World} {A:Around} {E:Value→Shared→Prop} {s:Shared} {κt:Type} {lt:κt→κt→Bool} {kf:Keyed→κt} {κ0:SortKind} {it:Array Keyed}
def Pend (lt:κt→κt→Bool) (kf:Keyed→κt):Nat→List (List Keyed)→List (Nat×Nat×Nat)→Prop
 | _,[],[]=>True
 | off,L::Ls,p::ps=>p.1=off∧p.2.1=L.length∧1≤L.length∧Sd lt kf L∧Pend lt kf (off+L.length) Ls ps
 | _,_,_=>False
theorem Pend.len {off:Nat}: ∀{Ls:List (List Keyed)} {ps:List (Nat×Nat×Nat)} {off:Nat},Pend lt kf off Ls ps→Ls.length=ps.length
 | [],[],_,_=>rfl
 | L::Ls,p::ps,_,h=>by rw [List.length_cons,List.length_cons,Pend.len (off:=0) h.2.2.2.2]
 | [],_::_,_,h=>h.elim
 | _::_,[],_,h=>h.elim
theorem Pend.pair: ∀{i:Nat} {Ls:List (List Keyed)} {ps:List (Nat×Nat×Nat)} {off:Nat},Pend lt kf off Ls ps→i+1 < Ls.length→∃(X Y:List (List Keyed)) (L M:List Keyed) (p q:Nat×Nat×Nat),Ls=X++L::M::Y∧X.length=i∧ps[i]? =some p∧ps[i+1]? =some q∧
  p.1=off+X.flatten.length∧p.2.1=L.length∧q.1=off+X.flatten.length+L.length∧q.2.1=M.length∧1≤L.length∧1≤M.length∧Sd lt kf L∧Sd lt kf M∧
  ∀(N:List Keyed) (pw:Nat),N.length=L.length+M.length→Sd lt kf N→Pend lt kf off (X++N::Y) ((ps.set i (p.1,p.2.1+q.2.1,pw)).eraseIdx (i+1))
 | 0,L::M::Ls,p::q::ps,off,h,hi=>by
  obtain ⟨p1,p2,p3,p4,q1,q2,q3,q4,r⟩:=h
  refine ⟨[],Ls,L,M,p,q,rfl,rfl,rfl,rfl,?_,p2,?_,q2,p3,q3,p4,q4,fun N pw hN sN=>?_⟩
  ·simpa using p1
  ·simpa using q1
  ·show Pend lt kf off (N::Ls) (((p.1,p.2.1+q.2.1,pw)::q::ps).eraseIdx 1)
   refine ⟨p1,?_,by omega,sN,?_⟩
   ·show p.2.1+q.2.1=_;omega
   ·rw [hN]
    show Pend lt kf (off+(L.length+M.length)) Ls ps
    rw [←Nat.add_assoc];exact r
 | i+1,L::Ls,p::ps,off,h,hi=>by
  obtain ⟨p1,p2,p3,p4,r⟩:=h
  obtain ⟨X,Y,L',M,p',q',e,hX,h1,h2,h3,h4,h5,h6,h7,h8,h9,h10,h11⟩:=Pend.pair (i:=i) r (by rw [List.length_cons] at hi;omega)
  refine ⟨L::X,Y,L',M,p',q',by rw [e];rfl,by rw [List.length_cons,hX],h1,h2,?_,h4,?_,h6,h7,h8,h9,h10,fun N pw hN sN=>?_⟩
  ·rw [h3,List.flatten_cons,List.length_append];omega
  ·rw [h5,List.flatten_cons,List.length_append];omega
  ·exact ⟨p1,p2,p3,p4,h11 N pw hN sN⟩
 | _,[],_,_,_,hi=>by simp at hi
 | 0,[L],_,_,_,hi=>by simp at hi
 | _,_::_,[],_,h,_=>h.elim
 | 0,_::_::_,[_],_,h,_=>h.2.2.2.2.elim
structure Ok (lt:κt→κt→Bool) (kf:Keyed→κt) (κ0:SortKind) (st:SortSt) (Ls:List (List Keyed)) (rest:List Keyed):Prop where
 kind:kindOf st=κ0
 fail:failedOf st=none
 arr:(arrOf st).toList=Ls.flatten++rest
 pend:Pend lt kf 0 Ls (pendingOf st).toList
theorem seg {l P T R:List Keyed} (e:l=P++T++R) {i:Nat} (hi:i < T.length):l[P.length+i]? =T[i]? :=by
 rw [e,List.append_assoc,List.getElem?_append_right (by omega),Nat.add_sub_cancel_left,List.getElem?_append_left hi]
theorem ztb {st st':SortSt} {Q:PUnit→SortSt→Prop} (h:Q ⟨⟩ st'):wpS (model prog w) A E s (set st':StateT SortSt Sem PUnit) Q st:=by
 unfold wpS;rw [StateT.run_set];exact wpAny_pure ⟨rfl,h⟩
theorem zpo {xs:Array Keyed} {P T R:List Keyed} (e:xs.toList=P++T++R) (a b:Nat) (hb:b≤T.length):(xs.extract (P.length+a) (P.length+b)).toList=(T.drop a).take (b - a):=by
 rw [Array.toList_extract,List.extract_eq_take_drop,e,show P.length+b - (P.length+a)=b - a by omega,List.append_assoc,List.drop_append,List.drop_eq_nil_of_le (by omega),List.nil_append,Nat.add_sub_cancel_left]
 by_cases h:a≤T.length
 ·rw [List.drop_append_of_le_length h,List.take_append_of_le_length (by rw [List.length_drop];omega)]
 ·rw [show b - a=0 by omega,List.take_zero,List.take_zero]
theorem zoq (O:Srt.Ord lt) (hc:Cmp prog w A E s lt kf κ0 it) {i:Nat} {Q:Bool→SortSt→Prop} {st:SortSt} {Ls:List (List Keyed)} {rest:List Keyed} (h:Ok lt kf κ0 st Ls rest) (hi:i+1 < Ls.length) (hm: ∀u∈(arrOf st).toList,u∈it.toList)
  (q: ∀st' Ls',Ok lt kf κ0 st' Ls' rest→Ls'.length+1=Ls.length→Ls'.flatten.Perm Ls.flatten→Q true st'):wpS (model prog w) A E s (mergeAt' i) Q st:=by
 obtain ⟨X,Y,L,M,p,r,e,hX,h1,h2,h3,h4,h5,h6,h7,h8,sL,sM,hP⟩:=h.pend.pair hi
 rw [Nat.zero_add] at h3 h5
 obtain ⟨px,pn,pw⟩:=p
 obtain ⟨rx,rn,rw'⟩:=r
 dsimp only at h3 h4 h5 h6 hP
 subst h3 h4 h5 h6
 have harr:(arrOf st).toList=X.flatten++(L++M)++(Y.flatten++rest):=by
  rw [h.arr,e];simp [List.append_assoc]
 have hsz:(arrOf st).size=X.flatten.length+(L.length+M.length)+(Y.flatten++rest).length:=by
  rw [←Array.length_toList,harr,List.length_append,List.length_append,List.length_append]
 have hL: ∀j,j < L.length→(arrOf st).toList[X.flatten.length+j]? =L[j]? :=fun j hj=>by
  rw [seg harr (by rw [List.length_append];omega),List.getElem?_append_left hj]
 have hM: ∀j,j < M.length→(arrOf st).toList[X.flatten.length+L.length+j]? =M[j]? :=fun j hj=>by
  rw [Nat.add_assoc,seg harr (by rw [List.length_append];omega),List.getElem?_append_right (by omega),Nat.add_sub_cancel_left]
 have fin: ∀(N:List Keyed) (st':SortSt),kindOf st'=κ0→failedOf st'=none→(arrOf st').toList=X.flatten++N++(Y.flatten++rest)→N.Perm (L++M)→Sd lt kf N→
   (pendingOf st')=((pendingOf st).setIfInBounds i (X.flatten.length,L.length+M.length,pw)).eraseIdxIfInBounds (i+1)→Q true st':=fun N st' k1 k2 k3 k4 k5 k6=>by
  refine q st' (X++N::Y) ⟨k1,k2,by rw [k3];simp [List.append_assoc],?_⟩ ?_ ?_
  ·have hN:N.length=L.length+M.length:=by rw [k4.length_eq,List.length_append]
   have:=hP N pw hN k5
   rw [k6]
   have el:i+1 < ((pendingOf st).setIfInBounds i (X.flatten.length,L.length+M.length,pw)).size:=by
    rw [Array.size_setIfInBounds,←Array.length_toList,←h.pend.len (off:=0)];exact hi
   rw [Array.eraseIdxIfInBounds,dif_pos el,Array.toList_eraseIdx,Array.toList_setIfInBounds]
   exact this
  ·rw [e,List.length_append,List.length_append,List.length_cons,List.length_cons,List.length_cons];omega
  ·rw [e]
   simp only [List.flatten_append,List.flatten_cons]
   rw [←List.append_assoc L]
   exact (k4.append_right _).append_left _
 have toA: ∀{j:Nat} {u:Keyed},(arrOf st).toList[j]? =some u→(arrOf st)[j]? =some u∧u∈it.toList:=fun {j u} hu=>⟨by rw [←Array.getElem?_toList];exact hu,hm u (List.mem_of_getElem? hu)⟩
 obtain ⟨b0,hb0⟩: ∃b0,M[0]? =some b0:=⟨M[0],zy (by omega)⟩
 obtain ⟨al,hal⟩: ∃al,L[L.length - 1]? =some al:=⟨L[L.length - 1],zy (by omega)⟩
 have hb0':=toA (j:=X.flatten.length+L.length) (u:=b0) (by have:=hM 0 (by omega);rw [Nat.add_zero] at this;rw [this];exact hb0)
 have hal':=toA (j:=X.flatten.length+(L.length - 1)) (u:=al) (by rw [hL _ (by omega)];exact hal)
 rw [zts]
 refine wpS_bind (wpS_get ?_)
 rw [show (pendingOf st)[i]? =some (X.flatten.length,L.length,pw) by rw [←Array.getElem?_toList];exact h1,show (pendingOf st)[i+1]? =some (X.flatten.length+L.length,M.length,rw') by rw [←Array.getElem?_toList];exact h2]
 dsimp only
 refine wpS_bind (ztb ?_)
 have sorL: ∀i j u v,i≤j→j < L.length→(arrOf st).toList[X.flatten.length+i]? =some u→(arrOf st).toList[X.flatten.length+j]? =some v→le lt kf u v:=fun i j u v hij hj hu hv=>by
  rw [hL i (by omega)] at hu
  rw [hL j hj] at hv
  exact sL.at O hij hu hv
 have sorM: ∀i j u v,i≤j→j < M.length→(arrOf st).toList[X.flatten.length+L.length+i]? =some u→(arrOf st).toList[X.flatten.length+L.length+j]? =some v→le lt kf u v:=fun i j u v hij hj hu hv=>by
  rw [hM i (by omega)] at hu
  rw [hM j hj] at hv
  exact sM.at O hij hu hv
 have toal: ∀u∈L,le lt kf u al:=fun u hu=>by
  obtain ⟨j,hj⟩:=List.mem_iff_getElem?.mp hu
  have:=(List.getElem?_eq_some_iff.mp hj).1
  exact sL.at O (by omega) hj hal
 have fromb: ∀u∈M,le lt kf b0 u:=fun u hu=>by
  obtain ⟨j,hj⟩:=List.mem_iff_getElem?.mp hu
  exact sM.at O (Nat.zero_le _) hb0 hj
 have both:(∀u∈L,∀v∈M,le lt kf u v)→Sd lt kf (L++M):=fun hz=>List.pairwise_append.mpr ⟨sL,sM,hz⟩
 refine wpS_bind (yJ hb0'.1 (wpS_bind (ziu O hc (x:=X.flatten.length) (n:=L.length) h.kind hb0'.2 hm (by omega) (by omega) sorL fun k hkn k1 k2=>?_)))
 have k1': ∀u∈L.take k,le lt kf u b0:=fun u hu=>by
  obtain ⟨j,hj,hu'⟩:=zcs hu
  rw [Nat.zero_add] at hu'
  exact k1 j u hj (by rw [hL j (by omega)];exact hu')
 have k2': ∀u∈L.drop k,le lt kf b0 u:=fun u hu=>by
  obtain ⟨j,j1,j2,j3⟩:=zdd (l:=L) (x:=0) (k:=k) (n:=L.length) (by omega) (by rw [Nat.zero_add];exact hu)
  rw [Nat.zero_add] at j3
  exact zi5 O (k2 j u j1 j2 (by rw [hL j j2];exact j3))
 dsimp only
 by_cases n0:(L.length - k==0)=true
 ·rw [if_pos n0]
  have n0':L.length - k=0:=beq_iff_eq.mp n0
  rw [List.take_of_length_le (by omega)] at k1'
  exact wpS_pure (fin (L++M) _ h.kind h.fail harr (List.Perm.refl _) (both fun u hu v hv=>le_trans O (k1' u hu) (fromb v hv)) rfl)
 rw [if_neg n0]
 have n0': ¬L.length - k=0:=fun z=>n0 (beq_iff_eq.mpr z)
 rw [show X.flatten.length+k+(L.length - k) - 1=X.flatten.length+(L.length - 1) by omega]
 refine wpS_bind (yJ hal'.1 (wpS_bind (zh9 O hc (x:=X.flatten.length+L.length) (n:=M.length) h.kind hal'.2 hm (by omega) (by omega) sorM fun m hmn m1 m2=>?_)))
 have m1': ∀u∈M.take m,le lt kf u al:=fun u hu=>by
  obtain ⟨j,hj,hu'⟩:=zcs hu
  rw [Nat.zero_add] at hu'
  exact zi5 O (m1 j u hj (by rw [hM j (by omega)];exact hu'))
 have m2': ∀u∈M.drop m,le lt kf al u:=fun u hu=>by
  obtain ⟨j,j1,j2,j3⟩:=zdd (l:=M) (x:=0) (k:=m) (n:=M.length) (by omega) (by rw [Nat.zero_add];exact hu)
  rw [Nat.zero_add] at j3
  exact m2 j u j1 j2 (by rw [hM j j2];exact j3)
 dsimp only
 by_cases e0:(m==0)=true
 ·rw [if_pos e0]
  have e0':m=0:=beq_iff_eq.mp e0
  rw [e0',List.drop_zero] at m2'
  exact wpS_pure (fin (L++M) _ h.kind h.fail harr (List.Perm.refl _) (both fun u hu v hv=>le_trans O (toal u hu) (m2' v hv)) rfl)
 rw [if_neg e0]
 have e0': ¬m=0:=fun z=>e0 (beq_iff_eq.mpr z)
 have eU:((arrOf st).extract (X.flatten.length+k) (X.flatten.length+L.length)).toList=L.drop k:=by
  rw [zpo harr k L.length (by rw [List.length_append];omega),List.drop_append_of_le_length hkn,List.take_append_of_le_length (by rw [List.length_drop];omega),List.take_of_length_le (by rw [List.length_drop];omega)]
 have eV:((arrOf st).extract (X.flatten.length+L.length) (X.flatten.length+L.length+m)).toList=M.take m:=by
  rw [Nat.add_assoc X.flatten.length L.length m,zpo harr L.length (L.length+m) (by rw [List.length_append];omega),List.drop_left,Nat.add_sub_cancel_left]
 have sU:((arrOf st).extract (X.flatten.length+k) (X.flatten.length+L.length)).size=L.length - k:=by rw [←Array.length_toList,eU,List.length_drop]
 have sV:((arrOf st).extract (X.flatten.length+L.length) (X.flatten.length+L.length+m)).size=m:=by rw [←Array.length_toList,eV,List.length_take];omega
 generalize (arrOf st).extract (X.flatten.length+k) (X.flatten.length+L.length)=U at eU sU ⊢
 generalize (arrOf st).extract (X.flatten.length+L.length) (X.flatten.length+L.length+m)=W at eV sV ⊢
 have inL: ∀u∈L,u∈it.toList:=fun u hu=>hm u (by rw [harr];exact List.mem_append_left _ (List.mem_append_right _ (List.mem_append_left _ hu)))
 have inM: ∀u∈M,u∈it.toList:=fun u hu=>hm u (by rw [harr];exact List.mem_append_left _ (List.mem_append_right _ (List.mem_append_right _ hu)))
 have pre:(∀u∈U.toList,u∈it.toList)∧(∀u∈W.toList,u∈it.toList)∧Sd lt kf U.toList∧Sd lt kf W.toList∧1≤U.size∧1≤W.size∧(∀e,W.toList[0]? =some e→∀v∈U.toList,le lt kf e v)∧(∀v∈W.toList,∀e,U.toList[U.size - 1]? =some e→le lt kf v e):=by
  rw [eU,eV,sU,sV]
  refine ⟨fun u hu=>inL u (List.mem_of_mem_drop hu),fun u hu=>inM u (List.mem_of_mem_take hu),List.Pairwise.drop sL,List.Pairwise.take sM,by omega,by omega,fun e he v hv=>?_,fun v hv e he=>?_⟩
  ·rw [List.getElem?_take_of_lt (by omega),hb0] at he
   cases he
   exact k2' v hv
  ·rw [List.getElem?_drop,show k+(L.length - k - 1)=L.length - 1 by omega,hal] at he
   cases he
   exact m1' v hv
 obtain ⟨c1,c2,c3,c4,c5,c6,c7,c8⟩:=pre
 have post: ∀(r:Array Keyed) (g:Nat) (st1:SortSt),kindOf st1=κ0→failedOf st1=none→arrOf st1=arrOf st→pendingOf st1=((pendingOf st).setIfInBounds i (X.flatten.length,L.length+M.length,pw)).eraseIdxIfInBounds (i+1)→Rs lt kf U W r→Q true (setArr (zG st1 g) (wr (arrOf (zG st1 g)) (X.flatten.length+k) r)):=fun r g st1 a1 a2 a3 a4 hr=>by
  obtain ⟨hr1,hr2⟩:=hr
  rw [eU,eV] at hr1
  have hrs:r.size=L.length - k+m:=by
   rw [←Array.length_toList,hr1.length_eq,List.length_append,List.length_drop,List.length_take];omega
  refine fin (L.take k++r.toList++M.drop m) _ a1 a2 ?_ ?_ ?_ a4
  ·show (wr (arrOf st1) (X.flatten.length+k) r).toList=_
   rw [a3,zqa (by rw [hrs];omega),harr,hrs]
   have t1:(X.flatten++(L++M)++(Y.flatten++rest)).take (X.flatten.length+k)=X.flatten++L.take k:=by
    rw [List.append_assoc,List.take_length_add_append,List.append_assoc,List.take_append_of_le_length hkn]
   have t2:(X.flatten++(L++M)++(Y.flatten++rest)).drop (X.flatten.length+k+(L.length - k+m))=M.drop m++(Y.flatten++rest):=by
    rw [show X.flatten.length+k+(L.length - k+m)=X.flatten.length+(L.length+m) by omega,List.append_assoc,List.drop_length_add_append,List.append_assoc,List.drop_length_add_append,List.drop_append_of_le_length hmn]
   rw [t1,t2]
   simp only [List.append_assoc]
  ·have w1:=List.take_append_drop k L
   have w2:=List.take_append_drop m M
   refine ((hr1.append_left (L.take k)).append_right (M.drop m)).trans ?_
   rw [←List.append_assoc,w1,List.append_assoc,w2]
  ·have rin: ∀u∈r.toList,u∈L.drop k∨u∈M.take m:=fun u hu=>List.mem_append.mp (hr1.mem_iff.mp hu)
   refine List.pairwise_append.mpr ⟨List.pairwise_append.mpr ⟨List.Pairwise.take sL,hr2,fun u hu v hv=>?_⟩,List.Pairwise.drop sM,fun u hu v hv=>?_⟩
   ·rcases rin v hv with z | z
    ·exact le_trans O (k1' u hu) (k2' v z)
    ·exact le_trans O (k1' u hu) (fromb v (List.mem_of_mem_take z))
   ·rcases List.mem_append.mp hu with z | z
    ·exact le_trans O (toal u (List.mem_of_mem_take z)) (m2' v hv)
    ·rcases rin u z with z | z
     ·exact le_trans O (toal u (List.mem_of_mem_drop z)) (m2' v hv)
     ·exact le_trans O (m1' u z) (m2' v hv)
 have fin2: ∀(r:Array Keyed) (g:Nat),Rs lt kf U W r→Q (failedOf st).isNone (setArr (zG (setPending st (((pendingOf st).setIfInBounds i (X.flatten.length,L.length+M.length,pw)).eraseIdxIfInBounds (i+1))) g) (wr (arrOf st) (X.flatten.length+k) r)):=fun r g hr=>by
  have:=post r g (setPending st (((pendingOf st).setIfInBounds i (X.flatten.length,L.length+M.length,pw)).eraseIdxIfInBounds (i+1))) h.kind h.fail rfl rfl hr
  rw [h.fail]
  exact this
 split
 ·exact wpS_bind (ztu O hc h.kind c1 c2 c3 c4 c5 c6 c7 c8 fun r g hr=>wpS_bind (wpS_modify (wpS_bind (wpS_get (wpS_pure (fin2 r g hr))))))
 ·exact wpS_bind (zto O hc h.kind c1 c2 c3 c4 c5 c6 c7 c8 fun r g hr=>wpS_bind (wpS_modify (wpS_bind (wpS_get (wpS_pure (fin2 r g hr))))))
end
section
variable {κt:Type} {lt:κt→κt→Bool} {kf:Keyed→κt}
noncomputable abbrev nil2:Keyed:=(Value.none,Value.none)
abbrev ky (kf:Keyed→κt) (xs:Array Keyed) (i:Nat):κt:=kf (xs.getD i nil2)
def Asc (lt:κt→κt→Bool) (kf:Keyed→κt) (xs:Array Keyed) (lo n:Nat):Prop:=∀i j,i≤j→j < n→lt (ky kf xs (lo+j)) (ky kf xs (lo+i))=false
def Dsc (lt:κt→κt→Bool) (kf:Keyed→κt) (xs:Array Keyed) (lo n:Nat):Prop:=∀i j,i≤j→j < n→lt (ky kf xs (lo+i)) (ky kf xs (lo+j))=false
def Alk (lt:κt→κt→Bool) (kf:Keyed→κt) (xs:Array Keyed) (lo a b:Nat):Prop:=∀i j,a≤i→i < b→a≤j→j < b→lt (ky kf xs (lo+i)) (ky kf xs (lo+j))=false
structure Pr (ys:Array Keyed) (lo:Nat) (xs:Array Keyed):Prop where
 perm:xs.Perm ys
 pre: ∀i,i < lo→xs[i]? =ys[i]?
theorem Pr.size {ys xs:Array Keyed} {lo:Nat} (h:Pr ys lo xs):xs.size=ys.size:=h.perm.size_eq
abbrev rv (xs:Array Keyed) (i j:Nat):Array Keyed:=mirror xs i j ((j - i) / 2)
theorem zes {xs ys:Array Keyed} {i j:Nat} (h:xs[i]? =ys[j]?):ky kf xs i=ky kf ys j:=by
 unfold ky
 rw [Array.getD_eq_getD_getElem?,Array.getD_eq_getD_getElem?,h]
theorem zjg {xs:Array Keyed} {i j:Nat} (hj:j≤xs.size) (k:Nat):ky kf (rv xs i j) k=if i≤k∧k < j then ky kf xs (i+j - 1 - k) else ky kf xs k:=by
 have e:=getElem?_mirror_all (xs:=xs) (i:=i) hj k
 by_cases h:i≤k∧k < j
 ·rw [if_pos h] at e ⊢;exact zes e
 ·rw [if_neg h] at e ⊢;exact zes e
theorem Pr.rv {ys xs:Array Keyed} {lo i j:Nat} (h:Pr ys lo xs) (hi:lo≤i) (hj:j≤xs.size):Pr ys lo (rv xs i j):=
 ⟨(mirror_perm _ _ _ _).trans h.perm,fun k hk=>by
  rw [getElem?_mirror_all (xs:=xs) (i:=i) hj k,if_neg (by omega)];exact h.pre k hk⟩
theorem Asc.succ (O:Srt.Ord lt) {xs:Array Keyed} {lo n:Nat} (h:Asc lt kf xs lo n) (h1:1≤n) (e:lt (ky kf xs (lo+n)) (ky kf xs (lo+n - 1))=false):Asc lt kf xs lo (n+1):=fun i j hij hj=>by
 by_cases ej:j=n
 ·subst ej
  by_cases e2:i=j
  ·subst e2;exact Srt.irr O _
  ·have:=h i (j - 1) (by omega) (by omega)
   rw [show lo+(j - 1)=lo+j - 1 by omega] at this
   exact O.trans _ _ _ this e
 ·exact h i j hij (by omega)
theorem Dsc.succ (O:Srt.Ord lt) {xs:Array Keyed} {lo n:Nat} (h:Dsc lt kf xs lo n) (h1:1≤n) (e:lt (ky kf xs (lo+n - 1)) (ky kf xs (lo+n))=false):Dsc lt kf xs lo (n+1):=fun i j hij hj=>by
 by_cases ej:j=n
 ·subst ej
  by_cases e2:i=j
  ·subst e2;exact Srt.irr O _
  ·have:=h i (j - 1) (by omega) (by omega)
   rw [show lo+(j - 1)=lo+j - 1 by omega] at this
   exact O.trans _ _ _ e this
 ·exact h i j hij (by omega)
theorem Dsc.rv {xs:Array Keyed} {lo a n:Nat} (h:Dsc lt kf xs lo n) (hn:lo+n≤xs.size) (al:Alk lt kf xs lo a n) (ha:a≤n):Dsc lt kf (rv xs (lo+a) (lo+n)) lo n:=fun i j hij hj=>by
 rw [zjg hn,zjg hn]
 by_cases hi:lo+a≤lo+i∧lo+i < lo+n
 ·rw [if_pos hi,if_pos (by omega),show lo+a+(lo+n) - 1 - (lo+i)=lo+(a+n - 1 - i) by omega,show lo+a+(lo+n) - 1 - (lo+j)=lo+(a+n - 1 - j) by omega]
  exact al _ _ (by omega) (by omega) (by omega) (by omega)
 ·rw [if_neg hi]
  by_cases hj2:lo+a≤lo+j∧lo+j < lo+n
  ·rw [if_pos hj2,show lo+a+(lo+n) - 1 - (lo+j)=lo+(a+n - 1 - j) by omega]
   exact h _ _ (by omega) (by omega)
  ·rw [if_neg hj2];exact h i j hij hj
theorem Dsc.flip {xs:Array Keyed} {lo n:Nat} (h:Dsc lt kf xs lo n) (hn:lo+n≤xs.size):Asc lt kf (Ts.rv xs lo (lo+n)) lo n:=fun i j hij hj=>by
 rw [zjg hn,zjg hn,if_pos (by omega),if_pos (by omega),show lo+(lo+n) - 1 - (lo+j)=lo+(n - 1 - j) by omega,show lo+(lo+n) - 1 - (lo+i)=lo+(n - 1 - i) by omega]
 exact h _ _ (by omega) (by omega)
end
section
variable {prog:Program} {w:World} {A:Around} {E:Value→Shared→Prop} {s:Shared} {κt:Type} {lt:κt→κt→Bool} {kf:Keyed→κt} {κ0:SortKind} {it:Array Keyed}
theorem ze9 (hc:Cmp prog w A E s lt kf κ0 it) {st:SortSt} {xs:Array Keyed} {i j:Nat} {Q:Option Bool→SortSt→Prop} (hk:kindOf st=κ0) (hm: ∀u∈xs.toList,u∈it.toList) (hi:i < xs.size) (hj:j < xs.size)
  (q:Q (some (lt (ky kf xs i) (ky kf xs j))) (setArr st xs)):wpS (model prog w) A E s (ltAt' i j) Q (setArr st xs):=by
 obtain ⟨u,u1,u2,u3⟩:=yM hi
 obtain ⟨v,v1,v2,v3⟩:=yM hj
 have eu:xs.getD i nil2=u:=by rw [Array.getD_eq_getD_getElem?,u1];rfl
 have ev:xs.getD j nil2=v:=by rw [Array.getD_eq_getD_getElem?,v1];rfl
 unfold ky at q
 rw [eu,ev] at q
 rw [ltAt'_eq]
 refine wpS_bind (wpS_get ?_)
 exact wpS_bind (yJ u1 (wpS_bind (yJ v1 (hc u v _ Q (hm u u3) (hm v v3) hk q))))
theorem zl5 {st:SortSt} {xs:Array Keyed} {i j:Nat} {Q:Unit→SortSt→Prop} (q:Q () (setArr st (rv xs i j))):wpS (model prog w) A E s (reverseSlice' i j) Q (setArr st xs):=by
 rw [reverseSlice'_eq];exact wpS_modify q
theorem zp3 (O:Srt.Ord lt) (hc:Cmp prog w A E s lt kf κ0 it) {st:SortSt} {ys:Array Keyed} {lo nr:Nat} {Q:Option Nat→SortSt→Prop} (hk:kindOf st=κ0) (hm: ∀u∈ys.toList,u∈it.toList) (h1:1≤nr) (hs:lo+nr≤ys.size)
  (q: ∀n xs,1≤n→n≤nr→Pr ys lo xs→Asc lt kf xs lo n→Q (some n) (setArr st xs)):wpS (model prog w) A E s (countRun' lo nr) Q (setArr st ys):=by
 have hm': ∀{xs:Array Keyed},Pr ys lo xs→∀u∈xs.toList,u∈it.toList:=fun {xs} h u hu=>hm u ((Array.perm_iff_toList_perm.mp h.perm).mem_iff.mp hu)
 have p0:Pr ys lo ys:=⟨Array.Perm.refl _,fun _ _=>rfl⟩
 rw [countRun'_eq]
 dsimp only
 refine wpS_bind (wpS_mono (wpS_forRange (I:=fun x c st'=>st'=setArr st ys∧c=(none,x)∧Asc lt kf ys lo x)
  (Q:=fun c st'=>st'=setArr st ys∧∃n,c=(none,n)∧1≤n∧n≤nr∧Asc lt kf ys lo n∧(n=nr∨lt (ky kf ys (lo+n)) (ky kf ys (lo+n - 1))=true)) ?_ ?_ ?_) ?_)
 ·rintro x c st' hx1 hx ⟨rfl,rfl,hA⟩
  dsimp only
  refine wpS_bind (ze9 hc hk hm (by omega) (by omega) ?_)
  cases e:lt (ky kf ys (lo+x)) (ky kf ys (lo+x - 1)) with
  | true=>dsimp only;rw [if_pos rfl];exact wpS_pure ⟨rfl,x,rfl,hx1,by omega,hA,.inr e⟩
  | false=>dsimp only;rw [if_neg (by simp)];exact wpS_pure ⟨rfl,rfl,hA.succ O hx1 e⟩
 ·rintro c st' ⟨rfl,rfl,hA⟩
  exact ⟨rfl,_,rfl,by omega,by omega,hA,.inl (by omega)⟩
 ·exact ⟨rfl,rfl,fun i j hij hj=>by
   have:i=j:=by omega
   subst this;exact Srt.irr O _⟩
 rintro c st' ⟨rfl,n,rfl,n1,n2,hA,hcase⟩
 dsimp only
 by_cases hn:(n==nr)=true
 ·rw [if_pos hn];exact wpS_pure (q n ys n1 n2 p0 hA)
 rw [if_neg hn]
 have hn': ¬n=nr:=fun z=>hn (beq_iff_eq.mpr z)
 have hlt:lt (ky kf ys (lo+n)) (ky kf ys (lo+n - 1))=true:=hcase.resolve_left hn'
 by_cases hn1:n > 1
 case' pos=>
  rw [if_pos hn1]
  refine wpS_bind (ze9 hc hk hm (by omega) (by omega) ?_)
  cases er:lt (ky kf ys lo) (ky kf ys (lo+n - 1))
  case' true=>
   dsimp only
   rw [if_pos rfl]
   refine wpS_pure (q n ys n1 n2 p0 hA)
  case' false=>
   dsimp only
   rw [if_neg (by simp)]
   refine wpS_bind (zl5 ?_)
   have al:Alk lt kf ys lo 0 n:=fun i j _ hi _ hj=>by
    have h0:=hA 0 i (by omega) hi
    have h2:=hA j (n - 1) (by omega) (by omega)
    rw [Nat.add_zero] at h0
    rw [show lo+(n - 1)=lo+n - 1 by omega] at h2
    exact O.trans _ _ _ (O.trans _ _ _ h2 er) h0
   have pX:Pr ys lo (rv ys lo (lo+n)):=p0.rv (Nat.le_refl _) (by omega)
   have dX:Dsc lt kf (rv ys lo (lo+n)) lo n:=by
    have:=Dsc.rv (a:=0) (fun i j hij hj=>al i j (by omega) (by omega) (by omega) hj) (by omega) al (by omega)
    rw [Nat.add_zero] at this;exact this
   have dX1:Dsc lt kf (rv ys lo (lo+n)) lo (n+1):=dX.succ O n1 (by
    rw [zjg (by omega),zjg (by omega),if_pos (by omega),if_neg (by omega),show lo+(lo+n) - 1 - (lo+n - 1)=lo by omega]
    exact O.trans _ _ _ (O.asym _ _ hlt) er)
 case' neg=>
  rw [if_neg hn1]
  have pX:Pr ys lo ys:=p0
  have dX1:Dsc lt kf ys lo (n+1):=Dsc.succ O (fun i j hij hj=>by
   have:i=j:=by omega
   subst this;exact Srt.irr O _) n1 (O.asym _ _ hlt)
 all_goals
  refine wpS_bind (zd4 ?_)
  refine wpS_bind (wpS_mono (wpS_forRange (I:=fun x c st'=> ∃xs p,st'=setArr st xs∧c=(none,x,p)∧Pr ys lo xs∧Dsc lt kf xs lo x∧p+1≤x∧Alk lt kf xs lo (x - (p+1)) x)
   (Q:=fun c st'=> ∃xs m p,st'=setArr st xs∧c=(none,m,p)∧1≤m∧m≤nr∧Pr ys lo xs∧Dsc lt kf xs lo m∧p+1≤m∧Alk lt kf xs lo (m - (p+1)) m) ?_ ?_ ?_) ?_)
  ·rintro x c st' hx1 hx ⟨xs,p,rfl,rfl,hP,hD,hp,al⟩
   have hz:=hP.size
   dsimp only
   refine wpS_bind (ze9 hc hk (hm' hP) (by omega) (by omega) ?_)
   have one: ∀zs:Array Keyed,Alk lt kf zs lo (x+1 - (0+1)) (x+1):=fun zs i j h1 h2 h3 h4=>by
    have:i=j:=by omega
    subst this;exact Srt.irr O _
   cases e:lt (ky kf xs (lo+x)) (ky kf xs (lo+x - 1)) with
   | true=>
    dsimp only
    rw [if_pos rfl]
    by_cases hp0:p > 0
    ·rw [if_pos hp0]
     refine wpS_bind (zl5 (wpS_pure ?_))
     have e1:lo+x - (p+1)=lo+(x - (p+1)):=by omega
     rw [e1]
     have hD':=hD.rv (a:=x - (p+1)) (by omega) al (by omega)
     refine ⟨_,0,rfl,rfl,hP.rv (by omega) (by omega),hD'.succ O (by omega) ?_,by omega,one _⟩
     rw [zjg (by omega),zjg (by omega),if_pos (by omega),if_neg (by omega),show lo+(x - (p+1))+(lo+x) - 1 - (lo+x - 1)=lo+(x - (p+1)) by omega]
     have h2:=al (x - (p+1)) (x - 1) (by omega) (by omega) (by omega) (by omega)
     rw [show lo+(x - 1)=lo+x - 1 by omega] at h2
     exact O.trans _ _ _ (O.asym _ _ e) h2
    ·rw [if_neg hp0]
     exact wpS_pure ⟨xs,0,rfl,rfl,hP,hD.succ O (by omega) (O.asym _ _ e),by omega,one _⟩
   | false=>
    dsimp only
    rw [if_neg (by simp)]
    refine wpS_bind (ze9 hc hk (hm' hP) (by omega) (by omega) ?_)
    cases e2:lt (ky kf xs (lo+x - 1)) (ky kf xs (lo+x)) with
    | true=>
     dsimp only
     rw [if_pos rfl]
     exact wpS_pure ⟨xs,x,p,rfl,rfl,by omega,by omega,hP,hD,hp,al⟩
    | false=>
     dsimp only
     rw [if_neg (by simp)]
     refine wpS_pure ⟨xs,p+1,rfl,rfl,hP,hD.succ O (by omega) e2,by omega,fun i j i1 i2 j1 j2=>?_⟩
     by_cases ei:i=x
     ·subst ei
      by_cases ej:j=i
      ·subst ej;exact Srt.irr O _
      ·have h2:=al (i - 1) j (by omega) (by omega) (by omega) (by omega)
       rw [show lo+(i - 1)=lo+i - 1 by omega] at h2
       exact O.trans _ _ _ h2 e
     ·by_cases ej:j=x
      ·subst ej
       have h2:=al i (j - 1) (by omega) (by omega) (by omega) (by omega)
       rw [show lo+(j - 1)=lo+j - 1 by omega] at h2
       exact O.trans _ _ _ e2 h2
      ·exact al i j (by omega) (by omega) (by omega) (by omega)
  ·rintro c st' ⟨xs,p,rfl,rfl,hP,hD,hp,al⟩
   exact ⟨xs,_,p,rfl,rfl,by omega,by omega,hP,hD,hp,al⟩
  ·exact ⟨_,0,rfl,rfl,pX,dX1,by omega,fun i j h1 h2 h3 h4=>by
    have:i=j:=by omega
    subst this;exact Srt.irr O _⟩
  rintro c st' ⟨xs,m,p,rfl,rfl,m1,m2,hP,hD,hp,al⟩
  have hz:=hP.size
  dsimp only
  by_cases hp0:p > 0
  case' pos=>
   rw [if_pos hp0]
   refine wpS_bind (zl5 ?_)
   have e1:lo+m - (p+1)=lo+(m - (p+1)):=by omega
   rw [e1]
   have hD':=hD.rv (a:=m - (p+1)) (by omega) al (by omega)
   have hP':Pr ys lo (rv xs (lo+(m - (p+1))) (lo+m)):=hP.rv (by omega) (by omega)
   have hz':=hP'.size
  case' neg=>
   rw [if_neg hp0]
   have hD':=hD
   have hP':=hP
   have hz':=hz
  all_goals
   refine wpS_bind (zl5 ?_)
   have hA3:=hD'.flip (by omega)
   have hP3:=hP'.rv (i:=lo) (j:=lo+m) (Nat.le_refl _) (by omega)
   have hz3:=hP3.size
   refine wpS_bind (wpS_mono (wpS_forRange (I:=fun x c st'=> ∃zs,st'=setArr st zs∧c=(none,x)∧Pr ys lo zs∧Asc lt kf zs lo x)
    (Q:=fun c st'=> ∃zs n,st'=setArr st zs∧c=(none,n)∧1≤n∧n≤nr∧Pr ys lo zs∧Asc lt kf zs lo n) ?_ ?_ ⟨_,rfl,rfl,hP3,hA3⟩) ?_)
   ·rintro x c st' hx1 hx ⟨zs,rfl,rfl,hP4,hA⟩
    have hz4:=hP4.size
    dsimp only
    refine wpS_bind (ze9 hc hk (hm' hP4) (by omega) (by omega) ?_)
    cases e:lt (ky kf zs (lo+x)) (ky kf zs (lo+x - 1)) with
    | true=>dsimp only;rw [if_pos rfl];exact wpS_pure ⟨zs,x,rfl,rfl,by omega,by omega,hP4,hA⟩
    | false=>dsimp only;rw [if_neg (by simp)];exact wpS_pure ⟨zs,rfl,rfl,hP4,hA.succ O (by omega) e⟩
   ·rintro c st' ⟨zs,rfl,rfl,hP4,hA⟩
    exact ⟨zs,_,rfl,rfl,by omega,by omega,hP4,hA⟩
   ·rintro c st' ⟨zs,n',rfl,rfl,k1,k2,hP4,hA⟩
    exact wpS_pure (q n' zs k1 k2 hP4 hA)
theorem ztc (O:Srt.Ord lt) (hc:Cmp prog w A E s lt kf κ0 it) {st:SortSt} {ys:Array Keyed} {lo n ok:Nat} {Q:Bool→SortSt→Prop} (hk:kindOf st=κ0) (hm: ∀u∈ys.toList,u∈it.toList) (hok:ok≤n) (hs:lo+n≤ys.size) (hA:Asc lt kf ys lo ok)
  (q: ∀xs,Pr ys lo xs→Asc lt kf xs lo n→Q true (setArr st xs)):wpS (model prog w) A E s (binarySort' lo n ok) Q (setArr st ys):=by
 have hm': ∀{xs:Array Keyed},Pr ys lo xs→∀u∈xs.toList,u∈it.toList:=fun {xs} h u hu=>hm u ((Array.perm_iff_toList_perm.mp h.perm).mem_iff.mp hu)
 have p0:Pr ys lo ys:=⟨Array.Perm.refl _,fun _ _=>rfl⟩
 rw [binarySort'_eq]
 refine wpS_bind (wpS_mono (wpS_forRange (I:=fun k c st'=>c=(none,())∧∃xs,st'=setArr st xs∧Pr ys lo xs∧Asc lt kf xs lo (min k n))
  (Q:=fun c st'=>c=(none,())∧∃xs,st'=setArr st xs∧Pr ys lo xs∧Asc lt kf xs lo n) ?_ ?_ ?_) ?_)
 ·rintro k c st' hk1 hkn ⟨rfl,xs,rfl,hP,hA'⟩
  have hz:=hP.size
  rw [show min k n=k by omega] at hA'
  dsimp only
  refine wpS_bind (wpS_mono (wpS_forRange (I:=fun x c st'=>st'=setArr st xs∧∃l r,c=(none,l,r)∧l≤r∧r≤k∧r - l≤k - x∧(∀i,i < l→lt (ky kf xs (lo+k)) (ky kf xs (lo+i))=false)∧(∀i,r≤i→i < k→lt (ky kf xs (lo+i)) (ky kf xs (lo+k))=false))
   (Q:=fun c st'=>st'=setArr st xs∧∃l r,c=(none,l,r)∧l≤k∧(∀i,i < l→lt (ky kf xs (lo+k)) (ky kf xs (lo+i))=false)∧(∀i,l≤i→i < k→lt (ky kf xs (lo+i)) (ky kf xs (lo+k))=false)) ?_ ?_ ?_) ?_)
  ·rintro x c st' _ hx ⟨rfl,l,r,rfl,h1,h2,h3,h4,h5⟩
   dsimp only
   by_cases hge:l≥r
   ·rw [if_pos hge]
    have:l=r:=by omega
    subst this
    exact wpS_pure ⟨rfl,l,l,rfl,h2,h4,h5⟩
   ·rw [if_neg hge]
    refine wpS_bind (ze9 hc hk (hm' hP) (by omega) (by omega) ?_)
    cases e:lt (ky kf xs (lo+k)) (ky kf xs (lo+(l+r) / 2)) with
    | true=>
     dsimp only
     rw [if_pos rfl]
     refine wpS_pure ⟨rfl,l,(l+r) / 2,rfl,by omega,by omega,by omega,h4,fun i i1 i2=>?_⟩
     exact O.trans _ _ _ (O.asym _ _ e) (hA' _ _ i1 i2)
    | false=>
     dsimp only
     rw [if_neg (by simp)]
     refine wpS_pure ⟨rfl,(l+r) / 2+1,r,rfl,by omega,by omega,by omega,fun i i1=>?_,h5⟩
     exact O.trans _ _ _ (hA' i ((l+r) / 2) (by omega) (by omega)) e
  ·rintro c st' ⟨rfl,l,r,rfl,h1,h2,h3,h4,h5⟩
   have:l=r:=by omega
   subst this
   exact ⟨rfl,l,l,rfl,h2,h4,h5⟩
  ·exact ⟨rfl,0,k,rfl,by omega,by omega,by omega,fun i hi=>by omega,fun i i1 i2=>by omega⟩
  ·rintro c st' ⟨rfl,l,r,rfl,hl,h4,h5⟩
   dsimp only
   rw [moveDown'_eq]
   refine wpS_bind (wpS_modify (wpS_pure ⟨rfl,bubble xs (lo+k) (lo+k - (lo+l)),rfl,?_,?_⟩))
   ·refine ⟨(bubble_perm _ _ _).trans hP.perm,fun i hi=>?_⟩
    rw [getElem?_bubble (by omega) (lo+k - (lo+l)) (by omega) i,if_neg (by omega),if_neg (by omega)]
    exact hP.pre i hi
   ·rw [show min (k+1) n=k+1 by omega]
    have kb: ∀i,i < k+1→ky kf (bubble xs (lo+k) (lo+k - (lo+l))) (lo+i)=if i=l then ky kf xs (lo+k) else if l < i then ky kf xs (lo+(i - 1)) else ky kf xs (lo+i):=fun i hi=>by
     have e:=getElem?_bubble (xs:=xs) (src:=lo+k) (by omega) (lo+k - (lo+l)) (by omega) (lo+i)
     rw [show lo+k - (lo+k - (lo+l))=lo+l by omega] at e
     by_cases ei:i=l
     ·rw [if_pos (by omega)] at e
      rw [if_pos ei];exact zes e
     ·rw [if_neg (by omega)] at e
      rw [if_neg ei]
      by_cases li:l < i
      ·rw [if_pos (by omega),show lo+i - 1=lo+(i - 1) by omega] at e
       rw [if_pos li];exact zes e
      ·rw [if_neg (by omega)] at e
       rw [if_neg li];exact zes e
    intro i j hij hj
    rw [kb i (by omega),kb j hj]
    by_cases ei:i=l
    ·rw [if_pos ei]
     by_cases ej:j=l
     ·rw [if_pos ej];exact Srt.irr O _
     ·rw [if_neg ej,if_pos (by omega)];exact h5 _ (by omega) (by omega)
    ·rw [if_neg ei]
     by_cases ej:j=l
     ·rw [if_pos ej,if_neg (by omega)];exact h4 i (by omega)
     ·rw [if_neg ej]
      by_cases li:l < i
      ·rw [if_pos li,if_pos (by omega)];exact hA' _ _ (by omega) (by omega)
      ·rw [if_neg li]
       by_cases lj:l < j
       ·rw [if_pos lj];exact hA' _ _ (by omega) (by omega)
       ·rw [if_neg lj];exact hA' _ _ hij (by omega)
 ·rintro c st' ⟨hc',xs,rfl,hP,hA'⟩
  refine ⟨hc',xs,rfl,hP,?_⟩
  rwa [show min (max (max ok 1) n) n=n by omega] at hA'
 ·refine ⟨rfl,ys,rfl,p0,fun i j hij hj=>?_⟩
  by_cases h1:ok=0
  ·have:i=j:=by omega
   subst this;exact Srt.irr O _
  ·exact hA i j hij (by omega)
 ·rintro c st' ⟨rfl,xs,rfl,hP,hA'⟩
  exact wpS_pure (q xs hP hA')
end
section
variable {prog:Program} {w:World} {A:Around} {E:Value→Shared→Prop} {s:Shared} {κt:Type} {lt:κt→κt→Bool} {kf:Keyed→κt} {κ0:SortKind} {it:Array Keyed}
theorem Pend.congr: ∀{Ls:List (List Keyed)} {ps ps':List (Nat×Nat×Nat)} {off:Nat},ps.map (fun p=>(p.1,p.2.1))=ps'.map (fun p=>(p.1,p.2.1))→Pend lt kf off Ls ps→Pend lt kf off Ls ps'
 | [],[],[],_,_,h=>h
 | _::_,p::ps,p'::ps',off,e,h=>by
  rw [List.map_cons,List.map_cons] at e
  obtain ⟨e1,e2⟩:=List.cons.inj e
  obtain ⟨f1,f2⟩:=Prod.mk.inj e1
  obtain ⟨h1,h2,h3,h4,h5⟩:=h
  exact ⟨f1 ▸ h1,f2 ▸ h2,h3,h4,Pend.congr e2 h5⟩
 | _,[],_::_,_,e,_=>by simp at e
 | _,_::_,[],_,e,_=>by simp at e
 | [],_::_,_::_,_,_,h=>h.elim
 | _::_,[],[],_,_,h=>h.elim
theorem Pend.snoc: ∀{Ls:List (List Keyed)} {ps:List (Nat×Nat×Nat)} {off:Nat} {U:List Keyed} (pw:Nat),Pend lt kf off Ls ps→1≤U.length→Sd lt kf U→Pend lt kf off (Ls++[U]) (ps++[(off+Ls.flatten.length,U.length,pw)])
 | [],[],off,U,pw,_,h1,h2=>⟨by simp,rfl,h1,h2,True.intro⟩
 | L::Ls,p::ps,off,U,pw,h,h1,h2=>by
  obtain ⟨a,b,c,d,e⟩:=h
  refine ⟨a,b,c,d,?_⟩
  have:=Pend.snoc pw e h1 h2
  rw [List.flatten_cons,List.length_append,←Nat.add_assoc]
  exact this
 | [],_::_,_,_,_,h,_,_=>h.elim
 | _::_,[],_,_,_,h,_,_=>h.elim
theorem zkv (ps:Array (Nat×Nat×Nat)) (i pw:Nat):((ps.modify i fun x=>match x with | (st,len,_)=>(st,len,pw)).toList).map (fun p=>(p.1,p.2.1))=ps.toList.map (fun p=>(p.1,p.2.1)):=by
 rw [Array.toList_modify]
 apply List.ext_getElem?
 intro j
 rw [List.getElem?_map,List.getElem?_map,List.getElem?_modify]
 cases e:ps.toList[j]? with
 | none=>rfl
 | some x=>
  by_cases h:i=j
  ·simp [h]
  ·simp [h]
theorem Pr.lists {ys xs:Array Keyed} {lo n:Nat} {F R:List Keyed} (h:Pr ys lo xs) (hA:Asc lt kf xs lo n) (e:ys.toList=F++R) (hF:F.length=lo) (hn:lo+n≤ys.size):
  ∃U V,xs.toList=F++(U++V)∧(U++V).Perm R∧U.length=n∧Sd lt kf U:=by
 have hz:=h.size
 have ht:xs.toList.take lo=F:=by
  apply List.ext_getElem?
  intro i
  by_cases hi:i < lo
  ·rw [List.getElem?_take_of_lt hi,Array.getElem?_toList,h.pre i hi,←Array.getElem?_toList,e,List.getElem?_append_left (by omega)]
  ·rw [List.getElem?_eq_none (by rw [List.length_take];omega),List.getElem?_eq_none (by omega)]
 refine ⟨(xs.toList.drop lo).take n,(xs.toList.drop lo).drop n,?_,?_,?_,?_⟩
 ·rw [List.take_append_drop,←ht,List.take_append_drop]
 ·rw [List.take_append_drop]
  have:=Array.perm_iff_toList_perm.mp h.perm
  rw [e,←List.take_append_drop lo xs.toList,ht] at this
  exact (List.perm_append_left_iff F).mp this
 ·rw [List.length_take,List.length_drop,Array.length_toList];omega
 ·refine List.pairwise_iff_getElem.mpr fun i j hi hj hij=>?_
  have hl:((xs.toList.drop lo).take n).length=n:=by rw [List.length_take,List.length_drop,Array.length_toList];omega
  rw [hl] at hi hj
  have g: ∀k (hk:k < ((xs.toList.drop lo).take n).length),kf (((xs.toList.drop lo).take n)[k])=ky kf xs (lo+k):=fun k hk=>by
   unfold ky
   rw [List.getElem_take,List.getElem_drop,Array.getElem_toList,Array.getD_eq_getD_getElem?,Array.getElem?_eq_getElem (by rw [hl] at hk;omega)];rfl
  unfold le
  rw [g,g]
  exact hA i j (by omega) hj
theorem zyh {Ls:List (List Keyed)}: ∀{ps:List (Nat×Nat×Nat)} {off:Nat},Pend lt kf off Ls ps→Ls.length≤Ls.flatten.length:=by
 induction Ls with
 | nil=>intro _ _ _;exact Nat.le_refl _
 | cons L Ls ih=>
  intro ps off h
  cases ps with
  | nil=>exact h.elim
  | cons p ps=>
   obtain ⟨_,_,h3,_,h5⟩:=h
   have:=ih h5
   rw [List.length_cons,List.flatten_cons,List.length_append];omega
theorem wpS_sort (O:Srt.Ord lt) (hc:Cmp prog w A E s lt kf κ0 it) {Q:Unit→SortSt→Prop} {g:Nat}
  (q: ∀st',failedOf st'=none→(arrOf st').toList.Perm it.toList→Sd lt kf (arrOf st').toList→Q () st'):wpS (model prog w) A E s sortRuns' Q (SortSt.mk' κ0 it #[] g none):=by
 rw [sortRuns'_eq]
 refine wpS_bind (wpS_get ?_)
 dsimp only
 rw [show (arrOf (SortSt.mk' κ0 it #[] g none)).size=it.size from rfl]
 have mem: ∀{st:SortSt},(arrOf st).toList.Perm it.toList→∀u∈(arrOf st).toList,u∈it.toList:=fun {st} h u hu=>h.mem_iff.mp hu
 refine wpS_bind (wpS_mono (wpS_forRange (I:=fun x c st'=> ∃Ls rest lo,c=(none,lo)∧Ok lt kf κ0 st' Ls rest∧Ls.flatten.length=lo∧(arrOf st').toList.Perm it.toList∧x≤lo)
  (Q:=fun c st'=> ∃Ls lo,c=(none,lo)∧Ok lt kf κ0 st' Ls []∧(arrOf st').toList.Perm it.toList) ?step ?fin ?init) ?post)
 case init=>exact ⟨[],it.toList,0,rfl,⟨rfl,rfl,rfl,True.intro⟩,rfl,List.Perm.refl _,Nat.le_refl _⟩
 case fin=>
  rintro c st' ⟨Ls,rest,lo,rfl,hO,hl,hp,hx⟩
  have hlen:Ls.flatten.length+rest.length=it.size:=by
   have:=hp.length_eq
   rw [hO.arr,List.length_append,Array.length_toList] at this;exact this
  have hr:rest=[]:=List.eq_nil_of_length_eq_zero (by omega)
  subst hr
  exact ⟨Ls,lo,rfl,hO,hp⟩
 case step=>
  rintro x c st' _ hx ⟨Ls,rest,lo,rfl,hO,hl,hp,hxl⟩
  have hlen:Ls.flatten.length+rest.length=it.size:=by
   have:=hp.length_eq
   rw [hO.arr,List.length_append,Array.length_toList] at this;exact this
  have hasz:(arrOf st').size=it.size:=by
   have:=hp.length_eq
   rw [Array.length_toList,Array.length_toList] at this;exact this
  dsimp only
  by_cases hge:lo≥it.size
  ·rw [if_pos hge]
   have hr:rest=[]:=List.eq_nil_of_length_eq_zero (by omega)
   subst hr
   exact wpS_pure ⟨Ls,lo,rfl,hO,hp⟩
  rw [if_neg hge]
  show wpS (model prog w) A E s _ _ (setArr st' (arrOf st'))
  refine wpS_bind (zp3 O hc (st:=st') (ys:=arrOf st') (lo:=lo) (nr:=it.size - lo) hO.kind (mem hp) (by omega) (by omega) fun n xs n1 n2 hPr hA=>?_)
  dsimp only
  by_cases hmr:n < minRun' it.size it.size 0
  case' pos=>
   rw [if_pos hmr]
   refine wpS_bind (zd4 ?_)
   have hxs:=hPr.size
   refine wpS_bind (ztc O hc (st:=st') (ys:=xs) (lo:=lo) hO.kind (fun u hu=>mem hp u ((Array.perm_iff_toList_perm.mp hPr.perm).mem_iff.mp hu)) (by omega) (by omega) hA fun zs hPr2 hA2=>?_)
   rw [if_neg (by simp)]
   have hPz:Pr (arrOf st') lo zs:=⟨hPr2.perm.trans hPr.perm,fun i hi=>(hPr2.pre i hi).trans (hPr.pre i hi)⟩
   have hm1:1≤min (it.size - lo) (minRun' it.size it.size 0):=by omega
   have hm2:min (it.size - lo) (minRun' it.size it.size 0)≤it.size - lo:=by omega
   generalize min (it.size - lo) (minRun' it.size it.size 0)=n' at hA2 hm1 hm2 ⊢
  case' neg=>
   rw [if_neg hmr]
   have hPz:=hPr
   have hA2:=hA
   have hm1:=n1
   have hm2:=n2
   generalize xs=zs at hPz hA2 ⊢
   generalize n=n' at hA2 hm1 hm2 ⊢
  all_goals
   obtain ⟨U,V,e1,e2,e3,e4⟩:=hPz.lists hA2 hO.arr hl (by omega)
   have hO1:Ok lt kf κ0 (setArr st' zs) Ls (U++V):=⟨hO.kind,hO.fail,e1,hO.pend⟩
   have hp1:(arrOf (setArr st' zs)).toList.Perm it.toList:=(Array.perm_iff_toList_perm.mp hPz.perm).trans hp
   generalize setArr st' zs=st1 at hO1 hp1 ⊢
   have push: ∀(st2:SortSt) (Ls2:List (List Keyed)),Ok lt kf κ0 st2 Ls2 (U++V)→Ls2.flatten.length=lo→(arrOf st2).toList.Perm it.toList→
     ∃Ls3 rest3 lo3,((none,lo+n'):Option Unit×Nat)=(none,lo3)∧Ok lt kf κ0 (setPending st2 ((pendingOf st2).push (lo,n',0))) Ls3 rest3∧Ls3.flatten.length=lo3∧(arrOf (setPending st2 ((pendingOf st2).push (lo,n',0)))).toList.Perm it.toList∧x+1≤lo3:=fun st2 Ls2 h1 h2 h3=>by
    refine ⟨Ls2++[U],V,lo+n',rfl,⟨h1.kind,h1.fail,?_,?_⟩,?_,h3,by omega⟩
    ·show (arrOf st2).toList=_
     rw [h1.arr,List.flatten_append,List.append_assoc]
     simp
    ·show Pend lt kf 0 (Ls2++[U]) ((pendingOf st2).push (lo,n',0)).toList
     rw [Array.toList_push]
     have:=h1.pend.snoc 0 (by omega) e4
     rw [Nat.zero_add,h2,e3] at this
     exact this
    ·rw [List.flatten_append,List.length_append,h2]
     simp [e3]
   refine wpS_bind (wpS_get ?_)
   split
   ·refine wpS_bind (wpS_mono (wpS_forRange (I:=fun y c st2=>c=(none,())∧∃Ls2,Ok lt kf κ0 st2 Ls2 (U++V)∧Ls2.flatten.length=lo∧(arrOf st2).toList.Perm it.toList)
     (Q:=fun c st2=>c=(none,())∧∃Ls2,Ok lt kf κ0 st2 Ls2 (U++V)∧Ls2.flatten.length=lo∧(arrOf st2).toList.Perm it.toList) ?_ (fun _ _ z=>z) ⟨rfl,Ls,hO1,hl,hp1⟩) ?_)
    ·rintro y c st2 _ _ ⟨rfl,Ls2,hO2,hl2,hp2⟩
     refine wpS_bind (wpS_get ?_)
     have hsz2:Ls2.length=(pendingOf st2).size:=by rw [hO2.pend.len (off:=0),Array.length_toList]
     by_cases hs1:(pendingOf st2).size > 1
     ·rw [if_pos hs1]
      split
      ·split
       ·exact wpS_pure ⟨rfl,Ls2,hO2,hl2,hp2⟩
       ·refine wpS_bind (zoq O hc hO2 (by omega) (mem hp2) fun st3 Ls3 hO3 hl3 hp3=>?_)
        rw [if_neg (by simp)]
        refine wpS_pure ⟨rfl,Ls3,hO3,by rw [hp3.length_eq,hl2],?_⟩
        rw [hO3.arr]
        rw [hO2.arr] at hp2
        exact (hp3.append_right _).trans hp2
      ·exact wpS_pure ⟨rfl,Ls2,hO2,hl2,hp2⟩
     ·rw [if_neg hs1]
      exact wpS_pure ⟨rfl,Ls2,hO2,hl2,hp2⟩
    ·rintro c st2 ⟨rfl,Ls2,hO2,hl2,hp2⟩
     dsimp only
     refine wpS_bind (wpS_modify (wpS_bind (wpS_modify (wpS_pure ?_))))
     exact push (setPending st2 _) Ls2 ⟨hO2.kind,hO2.fail,hO2.arr,hO2.pend.congr (zkv _ _ _).symm⟩ hl2 hp2
   ·exact wpS_bind (wpS_modify (wpS_pure (push st1 Ls hO1 hl hp1)))
 case post=>
  rintro c st' ⟨Ls,lo,rfl,hO,hp⟩
  dsimp only
  have hl0:Ls.length≤it.size:=by
   have h1:=zyh hO.pend
   have h2:=hp.length_eq
   rw [hO.arr,List.append_nil] at h2
   have h3:it.toList.length=it.size:=Array.length_toList
   omega
  refine wpS_bind (wpS_mono (wpS_forRange (I:=fun y c st2=>c=(none,())∧∃Ls2,Ok lt kf κ0 st2 Ls2 []∧Ls2.length≤it.size+1 - y∧(arrOf st2).toList.Perm it.toList)
   (Q:=fun c st2=>c=(none,())∧∃Ls2,Ok lt kf κ0 st2 Ls2 []∧Ls2.length≤1∧(arrOf st2).toList.Perm it.toList) ?_ ?_ ⟨rfl,Ls,hO,by omega,hp⟩) ?_)
  ·rintro y c st2 _ hy ⟨rfl,Ls2,hO2,hl2,hp2⟩
   refine wpS_bind (wpS_get ?_)
   have hsz2:Ls2.length=(pendingOf st2).size:=by rw [hO2.pend.len (off:=0),Array.length_toList]
   by_cases hs1:(pendingOf st2).size≤1
   ·rw [if_pos hs1]
    exact wpS_pure ⟨rfl,Ls2,hO2,by omega,hp2⟩
   rw [if_neg hs1]
   have hi: ∀b:Bool,(if b=true then (pendingOf st2).size - 2 - 1 else (pendingOf st2).size - 2)+1 < Ls2.length:=fun b=>by
    cases b
    ·rw [if_neg (by simp)];omega
    ·rw [if_pos rfl];omega
   refine wpS_bind (zoq O hc hO2 (hi _) (mem hp2) fun st3 Ls3 hO3 hl3 hp3=>?_)
   rw [if_neg (by simp)]
   refine wpS_pure ⟨rfl,Ls3,hO3,by omega,?_⟩
   rw [hO3.arr]
   rw [hO2.arr] at hp2
   exact (hp3.append_right _).trans hp2
  ·rintro c st2 ⟨rfl,Ls2,hO2,hl2,hp2⟩
   exact ⟨rfl,Ls2,hO2,by omega,hp2⟩
  ·rintro c st2 ⟨rfl,Ls2,hO2,hl2,hp2⟩
   dsimp only
   refine wpS_pure (q st2 hO2.fail hp2 ?_)
   rw [hO2.arr,List.append_nil]
   cases Ls2 with
   | nil=>exact List.Pairwise.nil
   | cons L Ls2=>
    cases Ls2 with
    | cons _ _=>simp at hl2
    | nil=>
     have h2:=hO2.pend
     cases e:(pendingOf st2).toList with
     | nil=>rw [e] at h2;exact h2.elim
     | cons p ps=>
      rw [e] at h2
      simpa using h2.2.2.2.1
end
end Ts
namespace L2
open PySem PySem.Spec PySem.W PyProof.Rows
theorem zjs {α β:Type} {g:α→β} {l m:List β} (h:l.Perm m): ∀xs:List α,m=xs.map g→∃ys:List α,ys.Perm xs∧l=ys.map g:=by
 induction h with
 | nil=>
  intro xs e
  cases xs with
  | nil=>exact ⟨[],List.Perm.refl _,rfl⟩
  | cons _ _=>simp at e
 | cons a _ ih=>
  intro xs e
  cases xs with
  | nil=>simp at e
  | cons x xs=>
   rw [List.map_cons] at e
   obtain ⟨e1,e2⟩:=List.cons.inj e
   obtain ⟨ys,p,q⟩:=ih xs e2
   exact ⟨x::ys,p.cons x,by rw [List.map_cons,e1,q]⟩
 | swap a b l=>
  intro xs e
  cases xs with
  | nil=>simp at e
  | cons x xs=>
   cases xs with
   | nil=>simp at e
   | cons y xs=>
    rw [List.map_cons,List.map_cons] at e
    obtain ⟨e1,e2⟩:=List.cons.inj e
    obtain ⟨e3,e4⟩:=List.cons.inj e2
    exact ⟨y::x::xs,List.Perm.swap _ _ _,by rw [List.map_cons,List.map_cons,e1,e3,e4]⟩
 | trans _ _ ih1 ih2=>
  intro xs e
  obtain ⟨ys,p,q⟩:=ih2 xs e
  obtain ⟨zs,p',q'⟩:=ih1 ys q
  exact ⟨zs,p'.trans p,q'⟩
section
variable {prog:Program} {w:World} {A:Around} {E:Value→Shared→Prop} {s:Shared}
open Classical in
def zul {κt:Type} (vs:List Value) (f:Nat→κt) (p:Keyed):κt:=if h: ∃i,i < vs.length∧vs.getD i Value.none=p.1 then f h.choose else f 0
theorem zfw {κt:Type} {vs:List Value} {f:Nat→κt} (hf: ∀i j,i < vs.length→j < vs.length→vs.getD i Value.none=vs.getD j Value.none→f i=f j) {i:Nat} (hi:i < vs.length) {p:Keyed} (e:vs.getD i Value.none=p.1):zul vs f p=f i:=by
 have h: ∃i,i < vs.length∧vs.getD i Value.none=p.1:=⟨i,hi,e⟩
 unfold zul
 rw [dif_pos h]
 have:=h.choose_spec
 exact hf _ _ this.1 hi (this.2.trans e.symm)
theorem zr3 {vs:List Value} {κt:Type} {lt:κt→κt→Bool} (O:Srt.Ord lt) (f:Nat→κt) (κ0:SortKind) (hf: ∀i j,i < vs.length→j < vs.length→vs.getD i Value.none=vs.getD j Value.none→f i=f j)
  (hask: ∀(i j:Nat) (C:Bool→Shared→Prop),i < vs.length→j < vs.length→C (lt (f i) (f j)) s→kas_ask prog w A κ0 vs i j C s) {Q:SortSt→Prop}
  (q: ∀(p:Array Nat) (st':SortSt),Srt.Pm vs.length p→Srt.Up lt f p vs.length→arrOf st'=p.map (kas_item (vs.toArray.zip vs.toArray))→failedOf st'=none→Q st'):
  wpAny (model prog w) A ((sortRuns').run (SortSt.mk' κ0 (vs.toArray.zip vs.toArray) #[] 7 none)) (fun r s'=>s'=s∧Q r.2) E s:=by
 have hlen:(vs.toArray.zip vs.toArray).size=vs.length:=by simp
 have hit:=kas_range (vs.toArray.zip vs.toArray)
 rw [hlen] at hit
 have hitem: ∀i,i < vs.length→kas_item (vs.toArray.zip vs.toArray) i=(vs.getD i Value.none,vs.getD i Value.none):=fun i hi=>kas_item_eq vs i
 have hcmp:Ts.Cmp prog w A E s lt (zul vs f) κ0 (vs.toArray.zip vs.toArray):=by
  intro x y st Q' hx hy hk hq
  rw [←hit] at hx hy
  rw [Array.toList_map] at hx hy
  obtain ⟨i,hi,rfl⟩:=List.mem_map.mp hx
  obtain ⟨j,hj,rfl⟩:=List.mem_map.mp hy
  have hi':i < vs.length:=List.mem_range.mp (by simpa using hi)
  have hj':j < vs.length:=List.mem_range.mp (by simpa using hj)
  rw [hitem i hi',hitem j hj'] at hq ⊢
  rw [zfw hf hi' rfl,zfw hf hj' rfl] at hq
  rw [lt'_eq]
  refine wpS_bind (wpS_get ?_)
  rw [hk]
  refine wpS_bind (wpS_lift (wpAny_attempt (wpAny_mono (hask i j (fun c s'=>s'=s∧c=lt (f i) (f j)) hi' hj' ⟨rfl,rfl⟩) (fun c s' hc=>?_) fun _ _ z=>z.elim)))
  obtain ⟨rfl,rfl⟩:=hc
  exact ⟨rfl,wpS_pure hq⟩
 refine wpAny_mono (Ts.wpS_sort (Q:=fun _ st'=>Q st') O hcmp (g:=7) fun st' hfail hperm hsd=>?_) (fun r s' hr=>hr) fun _ _ z=>z
 rw [←hit,Array.toList_map] at hperm
 obtain ⟨P,hP,hPe⟩:=zjs hperm _ rfl
 have hPr:P.Perm (List.range vs.length):=by simpa using hP
 have hPl:P.length=vs.length:=by rw [hPr.length_eq,List.length_range]
 have harr:arrOf st'=(List.toArray P).map (kas_item (vs.toArray.zip vs.toArray)):=by
  apply Array.ext'
  rw [hPe,Array.toList_map]
 refine q (List.toArray P) st' ⟨by simpa using hPr⟩ (fun i j hij hj=>?_) harr hfail
 have hi:i < P.length:=by omega
 have hj':j < P.length:=by omega
 unfold Srt.ky
 have gi:(List.toArray P).getD i 0=P[i]:=by simp [Array.getD,hi]
 have gj:(List.toArray P).getD j 0=P[j]:=by simp [Array.getD,hj']
 rw [gi,gj]
 have bi:P[i] < vs.length:=List.mem_range.mp (hPr.mem_iff.mp (List.getElem_mem hi))
 have bj:P[j] < vs.length:=List.mem_range.mp (hPr.mem_iff.mp (List.getElem_mem hj'))
 have:=hsd.at O (i:=i) (j:=j) (u:=kas_item (vs.toArray.zip vs.toArray) P[i]) (v:=kas_item (vs.toArray.zip vs.toArray) P[j]) hij (by rw [hPe,List.getElem?_map,zy hi];rfl) (by rw [hPe,List.getElem?_map,zy hj'];rfl)
 unfold Ts.le at this
 rw [hitem _ bi,hitem _ bj,zfw hf bj rfl,zfw hf bi rfl] at this
 exact this
theorem zq3 {a:Addr} {vs:List Value} {n:Nat} {P:PySem.Fin→Shared→Prop} {κt:Type} {lt:κt→κt→Bool} (O:Srt.Ord lt) (f:Nat→κt) (κ0:SortKind) (ho:s.heap.get? a=some (seqObj "list" vs.toArray n)) (hsz0:vs.length≤100000) (hf: ∀i j,i < vs.length→j < vs.length→vs.getD i Value.none=vs.getD j Value.none→f i=f j)
  (hkind: ∀(h6:Heap) (Q:SortKind→Shared→Prop),(∀b o,b≠a→s.heap.get? b=some o→h6.get? b=some o)→2≤vs.length→Q κ0 {s with heap:=h6}→wpAny (model prog w) A (keyKind' vs.toArray) Q (fun _ _=>False) {s with heap:=h6})
  (hask: ∀(h6:Heap) (i j:Nat) (C:Bool→Shared→Prop),(∀b o,b≠a→s.heap.get? b=some o→h6.get? b=some o)→i < vs.length→j < vs.length→C (lt (f i) (f j)) {s with heap:=h6}→kas_ask prog w A κ0 vs i j C {s with heap:=h6})
  (h: ∀p:Array Nat,Srt.Pm vs.length p→Srt.Up lt f p vs.length→P (.done (.ret .none)) {s with heap:=sortedHeap s.heap a vs (List.toArray (p.toList.map fun i=>vs.getD i Value.none))}):
  wpAny (model prog w) A (Builtin.«list.sort» ⟨[.ref a],[]⟩) P E s:=by
 have ha:a < s.heap.objs.size:=Heap.lt_size ho
 have z1:=Heap.SameBut.update s.heap a (Obj.mapSeq fun _=>(#[]:Array Value))
 obtain ⟨e1,ho1⟩: ∃e1,(s.heap.update a (Obj.mapSeq fun _=>(#[]:Array Value))).get? a=some (seqObj "list" #[] e1):=⟨_,get?_update_seq ho fun _=> #[]⟩
 have ho6:(((s.heap.update a (Obj.mapSeq fun _=>(#[]:Array Value))).push (seqObj "tuple" vs.toArray 0)).push (seqObj "list" #[] 0)).get? a=some (seqObj "list" #[] e1):=
  Heap.get?_push_of_some _ (Heap.get?_push_of_some _ ho1)
 have k6: ∀b o,b≠a→s.heap.get? b=some o→(((s.heap.update a (Obj.mapSeq fun _=>(#[]:Array Value))).push (seqObj "tuple" vs.toArray 0)).push (seqObj "list" #[] 0)).get? b=some o:=fun b o hb e=>
  Heap.get?_push_of_some _ (Heap.get?_push_of_some _ ((z1.2 b hb).trans e))
 have fin: ∀(st':SortSt) (p:Array Nat),Srt.Pm vs.length p→Srt.Up lt f p vs.length→(arrOf st').map (·.2)=List.toArray (p.toList.map fun i=>vs.getD i Value.none)→failedOf st'=none→
   wpAny (model prog w) A (do
    let touched:=(←seqEpoch a) !=e1
    Builtin.List.listUpdate (.ref a) fun _=>(arrOf st').map (·.2)
    if let some e:=failedOf st' then rule "list.sort.comparison-raised";throw e
    if touched then rule "list.sort.modified";raiseError "ValueError" "list modified during sort"
    ret .none) P E {s with heap:=(((s.heap.update a (Obj.mapSeq fun _=>(#[]:Array Value))).push (seqObj "tuple" vs.toArray 0)).push (seqObj "list" #[] 0))}:=fun st' p Pp Up hout hf=>by
  have hsz:(List.toArray (p.toList.map fun i=>vs.getD i Value.none)).size=vs.length:=by rw [List.size_toArray,List.length_map,Array.length_toList,Pp.size]
  rw [hout]
  refine wpAny_bind (seqEpoch_at ho6 rfl ?_)
  refine wpAny_bind (listUpdate_at ho6 rfl ?_ (Nat.zero_le _) (Nat.le_trans (Nat.le_of_eq hsz) (by rw [sizeLine_eq];omega)))
  rw [hf]
  simp only [bne_self_eq_false,Bool.false_eq_true,if_false]
  exact wpAny_pure (h p Pp Up)
 rw [list_sort_plain]
 refine wpAny_bind (listItems_at ho rfl ?_)
 refine wpAny_bind (listUpdate_at ho rfl ?_ (by rw [List.size_toArray,sizeLine_eq];omega) (Nat.zero_le _))
 refine wpAny_bind (seqEpoch_at ho1 rfl ?_)
 refine wpAny_bind (wpAny_newTuple ?_ (by show vs.length≤_;rw [sizeLine_eq];omega))
 refine wpAny_bind (wpAny_newList ?_ (Nat.zero_le _))
 refine wpAny_holding ?_
 show wpAny (model prog w) A _ P E {s with heap:=((s.heap.update a (Obj.mapSeq fun _=>(#[]:Array Value))).push (seqObj "tuple" vs.toArray 0)).push (seqObj "list" #[] 0)}
 dsimp only
 by_cases h2:vs.length < 2
 ·have h2':vs.toArray.size < 2:=by simpa using h2
  rw [if_pos h2',if_pos h2']
  refine wpAny_bind (wpAny_pure ?_)
  rw [StateT.run_pure]
  refine wpAny_bind (wpAny_pure ?_)
  dsimp only
  refine fin (SortSt.mk' general' (vs.toArray.zip vs.toArray) #[] 7 none) (List.toArray (List.range vs.length)) ⟨by simp⟩ (fun i j hij hj=>?_) ?_ rfl
  ·have:i=j:=by omega
   subst this
   exact Srt.irr O _
  ·have e:=kas_range (vs.toArray.zip vs.toArray)
   rw [show (vs.toArray.zip vs.toArray).size=vs.length by simp] at e
   exact kat_snds (ks:=vs) rfl e.symm
 ·have h2': ¬vs.toArray.size < 2:=by simpa using h2
  rw [if_neg h2',if_neg h2']
  refine wpAny_bind (wpAny_mono (hkind _ (fun κ s'=>κ=κ0∧s'={s with heap:=((s.heap.update a (Obj.mapSeq fun _=>(#[]:Array Value))).push (seqObj "tuple" vs.toArray 0)).push (seqObj "list" #[] 0)}) k6 (by omega) ⟨rfl,rfl⟩) (fun κ s' hk=>?_) fun _ _ x=>x.elim)
  obtain ⟨rfl,rfl⟩:=hk
  refine wpAny_bind (wpAny_mono (zr3 (s:={s with heap:=((s.heap.update a (Obj.mapSeq fun _=>(#[]:Array Value))).push (seqObj "tuple" vs.toArray 0)).push (seqObj "list" #[] 0)})
   (Q:=fun st'=> ∃p:Array Nat,Srt.Pm vs.length p∧Srt.Up lt f p vs.length∧arrOf st'=p.map (kas_item (vs.toArray.zip vs.toArray))∧failedOf st'=none) O f _ hf (fun i j C hi hj hC=>hask _ i j C k6 hi hj hC) fun p st' a1 a2 a3 a4=>⟨p,a1,a2,a3,a4⟩) ?_ fun _ _ e=>e)
  ·rintro ⟨⟨⟩,st'⟩ s' ⟨rfl,p,Pp,Up,har,hfl⟩
   dsimp only
   exact fin st' p Pp Up (kat_snds rfl har) hfl
theorem zhg {l:Addr} {vs:List Value} {Q:Value→Shared→Prop} {κt:Type} {lt:κt→κt→Bool} (O:Srt.Ord lt) (f:Nat→κt) (κ0:SortKind) (hl:s.heap.IsList l vs.toArray) (hsz0:vs.length≤100000) (hf: ∀i j,i < vs.length→j < vs.length→vs.getD i Value.none=vs.getD j Value.none→f i=f j)
  (hkind: ∀(h6:Heap) (Q:SortKind→Shared→Prop),(∀b o,s.heap.get? b=some o→h6.get? b=some o)→2≤vs.length→Q κ0 {s with heap:=h6}→wpAny (model prog w) A.in1.in1 (keyKind' vs.toArray) Q (fun _ _=>False) {s with heap:=h6})
  (hask: ∀(h6:Heap) (i j:Nat) (C:Bool→Shared→Prop),(∀b o,s.heap.get? b=some o→h6.get? b=some o)→i < vs.length→j < vs.length→C (lt (f i) (f j)) {s with heap:=h6}→kas_ask prog w A.in1.in1 κ0 vs i j C {s with heap:=h6})
  (h: ∀p:Array Nat,Srt.Pm vs.length p→Srt.Up lt f p vs.length→Q (.ref (s.heap.objs.size+1)) {s with heap:=sortedAll s.heap vs (List.toArray (p.toList.map fun i=>vs.getD i Value.none))}):
  wpAny (model prog w) A (call (.builtin "sorted") [.ref l]) Q E s:=by
 refine Calls.call_function_entry kind_sorted plain_sorted entry_sorted (args_sorted1 _) ?_
 unfold Builtin.«sorted»
 refine wpAny_bind (m:=checkCount "sorted" 1 1 _) (wpAny_pure ?_)
 refine wpAny_bind (collect_list hl ?_ (by rw [sizeLine_eq];omega))
 refine wpAny_bind (wpAny_newList ?_ (by rw [sizeLine_eq];omega))
 have hsz:((s.heap.push (seqObj "list" #[] 0)).update s.heap.objs.size (Obj.mapSeq (· ++vs.toArray))).objs.size=s.heap.objs.size+1:=by
  rw [Heap.size_update,size_push']
 have hoL:(((s.heap.push (seqObj "list" #[] 0)).update s.heap.objs.size (Obj.mapSeq (· ++vs.toArray))).push (seqObj "list" vs.toArray 0)).get? (s.heap.objs.size+1)=some (seqObj "list" vs.toArray 0):=by
  rw [←hsz];exact Heap.get?_push_size _ rfl
 have keep: ∀b o,s.heap.get? b=some o→b≠s.heap.objs.size+1∧(((s.heap.push (seqObj "list" #[] 0)).update s.heap.objs.size (Obj.mapSeq (· ++vs.toArray))).push (seqObj "list" vs.toArray 0)).get? b=some o:=fun b o q=>by
  have hlt:b < s.heap.objs.size:=Heap.lt_size q
  refine ⟨Nat.ne_of_lt (Nat.lt_succ_of_lt hlt),?_⟩
  rw [Heap.get?_push_ne _ _ _ (by rw [hsz];exact Nat.ne_of_lt (Nat.lt_succ_of_lt hlt)),Heap.get?_update_ne _ _ _ _ (Nat.ne_of_lt hlt),Heap.get?_push_ne _ _ _ (Nat.ne_of_lt hlt)]
  exact q
 show wpAny _ _ _ _ _ {s with heap:=((s.heap.push (seqObj "list" #[] 0)).update s.heap.objs.size (Obj.mapSeq (· ++vs.toArray))).push (seqObj "list" vs.toArray 0)}
 rw [hsz]
 refine wpAny_bind (wpAny_holding (wpAny_call_entry slot_list_sort ⟨_,hoL,rfl⟩ entry_list_sort ?body (args_list_sort _)))
 case body=>
  refine zq3 (s:={s with heap:=((s.heap.push (seqObj "list" #[] 0)).update s.heap.objs.size (Obj.mapSeq (· ++vs.toArray))).push (seqObj "list" vs.toArray 0)}) O f κ0 hoL hsz0 hf
   (fun h6 Q' k6 h2 q=>hkind h6 Q' (fun b o e=>k6 b o (keep b o e).1 (keep b o e).2) h2 q) (fun h6 i j C k6 hi hj hC=>hask h6 i j C (fun b o e=>k6 b o (keep b o e).1 (keep b o e).2) hi hj hC) fun p Pp Up=>⟨_,rfl,?_⟩
  exact wpAny_pure ⟨_,rfl,h p Pp Up⟩
end
noncomputable def qD:zq→zq→Bool
 | .inl a,.inl b=>decide (a < b)
 | .inr x,.inr y=>decide (x.cps.toList < y.cps.toList)
 | .inl _,.inr _=>true
 | .inr _,.inl _=>false
theorem zyx {x y:Str} (h1: ¬x.cps.toList < y.cps.toList) (h2: ¬y.cps.toList < x.cps.toList):x=y:=by
 have h:x.cps.toList=y.cps.toList:=List.le_antisymm (List.not_lt.mp h2) (List.not_lt.mp h1)
 cases x;cases y
 simp only [Str.mk.injEq]
 exact Array.ext' h
theorem zhu: ∀a b:zq,qD a b=true→qD b a=false
 | .inl a,.inl b,h=>by
  have:=of_decide_eq_true h
  exact decide_eq_false (by omega)
 | .inr x,.inr y,h=>decide_eq_false (List.lt_asymm (of_decide_eq_true h))
 | .inl _,.inr _,_=>rfl
 | .inr _,.inl _,h=>by cases h
theorem zgt: ∀a b:zq,qD a b=false→qD b a=false→a=b
 | .inl a,.inl b,h1,h2=>by
  have:=of_decide_eq_false h1
  have:=of_decide_eq_false h2
  exact congrArg Sum.inl (by omega)
 | .inr x,.inr y,h1,h2=>congrArg Sum.inr (zyx (of_decide_eq_false h1) (of_decide_eq_false h2))
 | .inl _,.inr _,h,_=>by cases h
 | .inr _,.inl _,_,h=>by cases h
theorem zpy: ∀a b c:zq,qD a b=true→qD b c=true→qD a c=true
 | .inl a,.inl b,.inl c,h1,h2=>by
  have:=of_decide_eq_true h1
  have:=of_decide_eq_true h2
  exact decide_eq_true (by omega)
 | .inr x,.inr y,.inr z,h1,h2=>decide_eq_true (List.lt_trans (of_decide_eq_true h1) (of_decide_eq_true h2))
 | .inl _,_,.inr _,_,_=>rfl
 | .inl _,.inr _,.inl _,_,h=>by cases h
 | .inr _,.inl _,_,h,_=>by cases h
 | .inr _,.inr _,.inl _,_,h=>by cases h
theorem zvg (a:zq):qD a a=false:=by
 cases h:qD a a with
 | false=>rfl
 | true=>rw [zhu a a h] at h;cases h
noncomputable def lexK:List zq→List zq→Bool
 | [],[]=>false
 | [],_::_=>true
 | _::_,[]=>false
 | x::xs,y::ys=>if x=y then lexK xs ys else qD x y
theorem zf9: ∀a b:List zq,lexK a b=true→lexK b a=false
 | [],[],h=>by cases h
 | [],_::_,_=>rfl
 | _::_,[],h=>by cases h
 | x::xs,y::ys,h=>by
  unfold lexK at h ⊢
  by_cases e:x=y
  ·rw [if_pos e] at h;rw [if_pos e.symm];exact zf9 xs ys h
  ·rw [if_neg e] at h;rw [if_neg (Ne.symm e)];exact zhu _ _ h
theorem zfd: ∀a b c:List zq,lexK b a=false→lexK c b=false→lexK c a=false
 | [],[],_,_,h=>h
 | [],_::_,[],_,h2=>by cases h2
 | [],_::_,_::_,_,_=>rfl
 | _::_,[],_,h1,_=>by cases h1
 | _::_,_::_,[],_,h2=>by cases h2
 | x::xs,y::ys,z::zs,h1,h2=>by
  unfold lexK at h1 h2 ⊢
  by_cases e1:y=x
  ·rw [if_pos e1] at h1
   by_cases e2:z=y
   ·rw [if_pos e2] at h2;rw [if_pos (e2.trans e1)];exact zfd xs ys zs h1 h2
   ·rw [if_neg e2] at h2;rw [if_neg (fun h=>e2 (h.trans e1.symm)),←e1];exact h2
  ·rw [if_neg e1] at h1
   have lxy:qD x y=true:=by
    cases h:qD x y with
    | true=>rfl
    | false=>exact absurd (zgt y x h1 h) e1
   by_cases e2:z=y
   ·subst e2
    rw [if_neg e1];exact h1
   ·rw [if_neg e2] at h2
    have lyz:qD y z=true:=by
     cases h:qD y z with
     | true=>rfl
     | false=>exact absurd (zgt z y h2 h) e2
    have lxz:=zpy _ _ _ lxy lyz
    by_cases e3:z=x
    ·subst e3;rw [zvg] at lxz;cases lxz
    ·rw [if_neg e3];exact zhu _ _ lxz
theorem ordK:Srt.Ord lexK:=⟨fun a b c=>zfd a b c,zf9⟩
theorem zhm: ∀a b:List zq,lexK a b=false→lexK b a=false→a=b
 | [],[],_,_=>rfl
 | [],_::_,h,_=>by cases h
 | _::_,[],_,h=>by cases h
 | x::xs,y::ys,h1,h2=>by
  unfold lexK at h1 h2
  by_cases e:x=y
  ·rw [if_pos e] at h1;rw [if_pos e.symm] at h2;rw [e,zhm xs ys h1 h2]
  ·rw [if_neg e] at h1;rw [if_neg (Ne.symm e)] at h2
   exact absurd (zgt _ _ h1 h2) e
theorem zf3: ∀{a b:List (List zq)},a.Perm b→a.Pairwise (fun x y=>lexK y x=false)→b.Pairwise (fun x y=>lexK y x=false)→a=b
 | [],b,p,_,_=>p.nil_eq
 | x::r,b,p,ha,hb=>by
  cases b with
  | nil=>exact absurd p.length_eq (by simp)
  | cons y t=>
   have hx:x∈y::t:=p.mem_iff.mp List.mem_cons_self
   have hy:y∈x::r:=p.mem_iff.mpr List.mem_cons_self
   have e:x=y:=by
    rcases List.mem_cons.mp hx with h | h
    ·exact h
    ·rcases List.mem_cons.mp hy with h' | h'
     ·exact h'.symm
     ·exact (zhm _ _ ((List.pairwise_cons.mp hb).1 x h) ((List.pairwise_cons.mp ha).1 y h')).symm ▸ rfl
   subst e
   rw [zf3 (List.Perm.cons_inv p) (List.pairwise_cons.mp ha).2 (List.pairwise_cons.mp hb).2]
section
variable {prog:Program} {w:World} {A:Around} {E:Value→Shared→Prop} {s:Shared}
noncomputable abbrev ql (r:List zq):List Bool:=r.map Sum.isLeft
theorem zib {fin b:Bool} {C:Bool→Shared→Prop} {s:Shared}: ∀(ns ms:List zq) (us ws:List Value) (i:Nat),Vals (ns.map kV) us→Vals (ms.map kV) ws→ql ns=ql ms→fin=decide (ns.length < ms.length)→C (lexK ns ms) s→KatLex prog w A b fin C (us.zip ws) i s
 | [],[],us,ws,i,hu,hw,_,hf,h=>by
  rw [List.map_nil] at hu
  cases hu
  subst hf
  exact kat_nil h
 | [],_::_,_,_,_,_,_,e,_,_=>by simp [ql] at e
 | _::_,[],_,_,_,_,_,e,_,_=>by simp [ql] at e
 | n::ns,m::ms,us,ws,i,hu,hw,e,hf,h=>by
  rw [List.map_cons] at hu hw
  rw [ql,ql,List.map_cons,List.map_cons] at e
  obtain ⟨e1,e2⟩:=List.cons.inj e
  cases hu with
  | @cons _ u _ us ru hu=>
   cases hw with
   | @cons _ v _ ws rv hw=>
    rw [List.zip_cons_cons]
    unfold lexK at h
    cases n with
    | inl x=>
     cases m with
     | inr y=>cases e1
     | inl y=>
      obtain ⟨t,rfl⟩:=ru
      obtain ⟨t',rfl⟩:=rv
      refine kat_cons (SeqAt.EqAt.int_int x t y t' prog w _ _ ?_)
      by_cases e:x=y
      ·rw [if_pos (congrArg Sum.inl e)] at h
       rw [show (x==y)=true by simpa using e]
       exact kat_yes (zib ns ms _ _ (i+1) hu hw e2 (by rw [hf];simp) h)
      ·rw [if_neg (fun z=>e (Sum.inl.inj z))] at h
       rw [show (x==y)=false by simpa using e]
       refine kat_no ?_
       cases (b && i==0) with
       | true=>exact oneLt_int h
       | false=>exact kat_one _ _ (lt_int h)
    | inr x=>
     cases m with
     | inl y=>cases e1
     | inr y=>
      obtain ⟨t,rfl⟩:=ru
      obtain ⟨t',rfl⟩:=rv
      refine kat_cons (SeqAt.EqAt.str_str x t y t' prog w _ _ ?_)
      by_cases e:x=y
      ·rw [if_pos (congrArg Sum.inr e)] at h
       rw [show (x==y)=true by simpa using e]
       exact kat_yes (zib ns ms _ _ (i+1) hu hw e2 (by rw [hf];simp) h)
      ·rw [if_neg (fun z=>e (Sum.inr.inj z))] at h
       rw [show (x==y)=false by simpa using e]
       refine kat_no ?_
       cases (b && i==0) with
       | true=>exact kas_lt_str (t:=t) (u:=t') h
       | false=>exact kat_one _ _ (lt_str h)
end
def IsK (K:PySem.W.Frag) (H:Hp) (x:V) (r:List zq):Prop:=∃t,x= .ref t∧SqT K H t (r.map kV)
section
variable {X:Cx}
theorem zky {pins:List (Addr×Obj)} {s:Shared} {σ:St} {H:Hp} (I:Inv X pins σ H s) {x:V} {v:Value} {r:List zq} (rv:RelV x v) (h:IsK X.K H x r):
  ∃t o its n,v= .ref t∧s.heap.get? t=some o∧o.cls= .type "tuple" ∧o.data= .seq (List.toArray its) n∧Vals (r.map kV) its:=by
 obtain ⟨t,rfl,ht⟩:=h
 cases rv
 obtain ⟨its,rv,⟨o,e,hc,n,hd⟩,_⟩:=I.tuple ht
 exact ⟨t,o,its,n,rfl,e,hc,hd,rv⟩
theorem zmr {pins:List (Addr×Obj)} {s:Shared} {σ:St} {H:Hp} {h6:Heap} (I:Inv X pins σ H s) (k6: ∀b o,s.heap.get? b=some o→h6.get? b=some o): ∀{ys:List V} {its:List Value} {rows:List (List zq)},Vals ys its→Paired (IsK X.K H) ys rows→
  (∀r∈rows,∃i r',r=Sum.inl i::r')→∃fs,KatTups h6 its fs∧fs.length=its.length∧∀v∈fs,∃n t,v=Value.int n t
 | _,_,_,.nil,.nil,_=>⟨[],KatTups.nil,rfl,fun _ h=>(nomatch h)⟩
 | _,_,r::_,.cons rv t,.cons p q,hne=>by
  obtain ⟨fs,h1,h2,h3⟩:=zmr I k6 t q fun r hr=>hne r (List.mem_cons_of_mem _ hr)
  obtain ⟨a,o,xs,n,rfl,e,hc,hd,hi⟩:=zky I rv p
  obtain ⟨i,r',rfl⟩:=hne r List.mem_cons_self
  rw [List.map_cons] at hi
  cases hi with
  | @cons _ f _ fr rf hi=>
   obtain ⟨tk,rfl⟩:=rf
   refine ⟨.int i tk::fs,KatTups.cons (k6 _ _ e) hc hd rfl h1,by simp [h2],fun v hv=>?_⟩
   rcases List.mem_cons.mp hv with rfl | hv
   ·exact ⟨i,tk,rfl⟩
   ·exact h3 v hv
theorem zmd: ∀{r r':List zq},r.map kV=r'.map kV→r=r'
 | [],[],_=>rfl
 | [],_::_,h=>by simp at h
 | _::_,[],h=>by simp at h
 | a::r,b::r',h=>by
  rw [List.map_cons,List.map_cons] at h
  obtain ⟨h1,h2⟩:=List.cons.inj h
  have:a=b:=by
   cases a <;> cases b <;> simp [kV] at h1 <;> rw [h1]
  rw [this,zmd h2]
theorem zjv:CallR X (.builtin "sorted") (fun xs H Q=> ∃(p:Addr) (ys:List V) (rows:List (List zq)) (R:V→List zq→Prop) (sh:List Bool),xs=[.ref p]∧SqL X.K H p ys∧(∀x r,R x r→IsK X.K H x r)∧Paired R ys rows∧rows.length≤100000∧(∀r∈rows,ql r=true::sh)∧
  ∀(l:Addr) (ys':List V) (rows':List (List zq)),H l=none→rows'.Perm rows→rows'.Pairwise (fun a b=>lexK b a=false)→Paired R ys' rows'→Q (.ref l) (zj H l (.lst ys'))):=by
 intro pins s σ H xs us Q I r h
 obtain ⟨p,ys,rows,R,sh,rfl,hq,hR,pr,hbig,hsh,h⟩:=h
 obtain ⟨u,rfl,rx⟩:=zhz r
 cases rx
 obtain ⟨its,rv,pl,hz⟩:=I.list hq
 have l1:=rv.length
 have l2:=Paired.length pr
 have hne: ∀r∈rows,∃i r',r=Sum.inl i::r':=fun r hr=>by
  have:=hsh r hr
  cases r with
  | nil=>simp [ql] at this
  | cons a r'=>
   cases a with
   | inl i=>exact ⟨i,r',rfl⟩
   | inr x=>simp [ql] at this
 have one: ∀i,i < ys.length→∃v a,its[i]? =some v∧rows[i]? =some a∧RelV (ys.getD i .non) v∧R (ys.getD i .non) a:=fun i hi=>by
  obtain ⟨v,ev,rvi⟩:=rv.get (i:=i) (x:=ys[i]) (by simp [hi])
  obtain ⟨a,ea,ra⟩:=Paired.getL pr (i:=i) (a:=ys[i]) (by simp [hi])
  have e:ys.getD i .non=ys[i]:=by simp [hi]
  exact ⟨v,a,ev,ea,by rw [e];exact rvi,by rw [e];exact ra⟩
 refine zhg ordK (fun i=>rows.getD i []) (tuples' true) pl.isList (by omega) (fun i j hi hj e=>?_) (fun h6 Q' k6 h2 q=>?_) (fun h6 i j C k6 hi hj hC=>?_) fun P Pp Up=>?_
 ·obtain ⟨v,a,ev,ea,rvi,ra⟩:=one i (by omega)
  obtain ⟨u,b,eu,eb,rvj,rb⟩:=one j (by omega)
  rw [List.getD_eq_getElem?_getD,List.getD_eq_getElem?_getD,ev,eu] at e
  have e:v=u:=e
  subst e
  show rows.getD i []=rows.getD j []
  rw [List.getD_eq_getElem?_getD,List.getD_eq_getElem?_getD,ea,eb]
  obtain ⟨t,ex,ht⟩:=hR _ _ ra
  obtain ⟨t',ex',ht'⟩:=hR _ _ rb
  rw [ex] at rvi
  rw [ex'] at rvj
  cases rvi
  cases rvj
  exact zmd (I.tuple_inj ht ht')
 ·obtain ⟨fs,t1,t2,t3⟩:=zmr I k6 rv (Paired.imp' (fun a b q=>hR a b q) pr) hne
  refine kat_kind (s:={s with heap:=h6}) (fs:=fs) (T:= .type "int") t1 (by omega) (fun v hv=>?_) (by decide) ?_
  ·obtain ⟨n,t,rfl⟩:=t3 v hv
   exact fun A Q E s _ q=>wpAny_pure q
  ·exact q
 ·unfold kas_ask
  obtain ⟨v,a,ev,ea,rvi,ra⟩:=one i (by omega)
  obtain ⟨u,b,eu,eb,rvj,rb⟩:=one j (by omega)
  have e1:its.getD i Value.none=v:=by rw [List.getD_eq_getElem?_getD,ev];rfl
  have e2:its.getD j Value.none=u:=by rw [List.getD_eq_getElem?_getD,eu];rfl
  have e3:rows.getD i []=a:=by rw [List.getD_eq_getElem?_getD,ea];rfl
  have e4:rows.getD j []=b:=by rw [List.getD_eq_getElem?_getD,eb];rfl
  rw [e1,e2]
  rw [e3,e4] at hC
  obtain ⟨x,ox,xs,n,rfl,ex,_,dx,ix⟩:=zky I rvi (hR _ _ ra)
  obtain ⟨y,oy,zs,k,rfl,ey,_,dy,iy⟩:=zky I rvj (hR _ _ rb)
  refine kat_lt (s:={s with heap:=h6}) (k6 _ _ ex) dx (k6 _ _ ey) dy (zib a b _ _ 0 ix iy ((hsh a (List.mem_of_getElem? ea)).trans (hsh b (List.mem_of_getElem? eb)).symm) ?_ hC)
  have q1:=ix.length
  have q2:=iy.length
  rw [List.length_map] at q1 q2
  rw [List.size_toArray,List.size_toArray,q1,q2]
 ·obtain ⟨e,he⟩:=sortedAll_at s.heap its (List.toArray (P.toList.map fun i=>its.getD i Value.none))
  have mem: ∀i∈P.toList,i < ys.length:=fun i hi=>by
   have:=List.mem_range.mp (Pp.perm.mem_iff.mp hi)
   omega
  have hv:Vals (P.toList.map fun i=>ys.getD i .non) (P.toList.map fun i=>its.getD i Value.none):=Paired.mapL fun i hi=>by
   obtain ⟨v,a,ev,ea,rvi,ra⟩:=one i (mem i hi)
   rw [List.getD_eq_getElem?_getD (l:=its),ev]
   exact rvi
  have hr:Paired R (P.toList.map fun i=>ys.getD i .non) (P.toList.map fun i=>rows.getD i []):=Paired.mapL fun i hi=>by
   obtain ⟨v,a,ev,ea,rvi,ra⟩:=one i (mem i hi)
   rw [List.getD_eq_getElem?_getD (l:=rows),ea]
   exact ra
  have hpl:P.toList.length=its.length:=by rw [Array.length_toList,Pp.size]
  refine ⟨.ref (s.heap.objs.size+1),_,I.laid (t':=s.toks) (o:= .lst (P.toList.map fun i=>ys.getD i .non)) (fun b o q=>sortedAll_old q) (Nat.le_succ _) ?_,rfl,h _ _ _ (I.hok.fresh (Nat.le_succ _)) ?_ ?_ hr⟩
  ·exact ⟨by rw [List.length_map];omega,_,e,hv,he⟩
  ·have q:=Pp.perm.map fun i=>rows.getD i []
   have e:its.length=rows.length:=by omega
   rw [e,zee] at q
   exact q
  ·rw [List.pairwise_iff_getElem]
   intro i j hi hj hij
   have hj':j < its.length:=by rw [List.length_map] at hj;omega
   have q:=Up i j (Nat.le_of_lt hij) hj'
   have gi:P.getD i 0=P.toList[i]'(by rw [hpl];omega):=by
    have:i < P.size:=by rw [Pp.size];omega
    simp [Array.getD,this]
   have gj:P.getD j 0=P.toList[j]'(by rw [hpl];omega):=by
    have:j < P.size:=by rw [Pp.size];omega
    simp [Array.getD,this]
   unfold Srt.ky at q
   rw [gi,gj] at q
   simpa using q
end
def Ite (K:PySem.W.Frag) (a:Addr):It:=
 ⟨fun i H=> ∃(xs:List V) (x:V),SqL K H a xs∧xs[i]? =some x,
  fun i H v H'=> ∃(T:Addr) (x:V),v= .ref T∧H T=none∧H'=zj H T (.tup [.int i,x])∧∀xs,SqL K H a xs→xs[i]? =some x,
  fun i H=> ∃xs,SqL K H a xs∧xs.length≤i⟩
def EnSt (z i1 a:Addr) (i:Nat) (h:Heap):Prop:=(∃old,IsEnum h z i1 (i:Int) old)∧h.IsListIter i1 a i
theorem zp6 {P:Program} {w:World} {K:PySem.W.Frag} {elts:List Expr} {x1} {tp:Pos} {z i1 a:Addr} (hne:z≠i1):Turn P w K (.Tuple elts x1 tp) (Ite K a) [z,i1] z (EnSt z i1 a) where
 mem:=by simp
 obj:=fun i h st c hc=>by
  obtain ⟨⟨old,hz⟩,⟨o1,e1,_,d1⟩⟩:=st
  simp only [List.mem_cons,List.not_mem_nil,or_false] at hc
  rcases hc with rfl | rfl
  ·exact ⟨_,hz,fun v e=>by cases e⟩
  ·exact ⟨_,e1,fun v e=>by rw [d1] at e;cases e⟩
 keep:=fun i h h' st k=>by
  obtain ⟨⟨old,hz⟩,h1⟩:=st
  exact ⟨⟨old,k z (by simp) _ hz⟩,h1.at fun o e=>k i1 (by simp) o e⟩
 item:=fun X hp hw hK hc i pins s σ H E I fp st go=>by
  subst hp hw hK
  obtain ⟨⟨old,hz⟩,h1⟩:=st
  obtain ⟨xs,x,qa,ex⟩:=go
  obtain ⟨vs,rv,pv,_⟩:=I.list qa
  obtain ⟨vx,evx,rvx⟩:=rv.get ex
  refine wpAny_pyNext_enum_item hz h1 pv.isList (x:=vx) (by simpa using evx) hne fun h' a1 a2 a3 a4 hk=>?_
  refine ⟨_,rfl,wpAny_letOwnedTupleGo_enum a1 fun h'' b1 b2=>?_⟩
  have nz:s.heap.objs.size≠z:=Nat.ne_of_gt (Heap.lt_size hz)
  have k2: ∀c o,c∉[z,i1]→s.heap.get? c=some o→h''.get? c=some o:=fun c o hcn e=>by
   simp only [List.mem_cons,List.not_mem_nil,or_false,not_or] at hcn
   exact b2.extBut _ _ hcn.1 (hk c o hcn.1 hcn.2 e)
  have I':Inv X pins σ (zj H s.heap.objs.size (.tup [.int i,x])) {s with heap:=h'',toks:=s.toks+1}:=
   I.turnLay (ch:=[z,i1]) k2 (fun c hcn=>fp c hcn) (Nat.le_refl _)
    ⟨by show 2≤sizeLine;decide,[.int i s.toks,vx],.cons ⟨_,rfl⟩ (.cons rvx .nil),⟨_,b2.extBut _ _ nz a3,rfl,_,rfl⟩⟩
  have nf:H s.heap.objs.size=none:=I.hok.fresh (Nat.le_refl _)
  refine ⟨.ref s.heap.objs.size,_,I',rfl,⟨_,x,rfl,nf,rfl,fun xs' q=>?_⟩,⟨⟨_,b1⟩,a2.extBut b2.extBut hne.symm⟩,fun c hcn=>?_⟩
  ·rw [I.list_inj q qa];exact ex
  ·have hc1:=fp c hcn
   have:c≠s.heap.objs.size:=by
    have hlt:c < s.heap.objs.size:=by
     simp only [List.mem_cons,List.not_mem_nil,or_false] at hcn
     rcases hcn with rfl | rfl
     ·exact Heap.lt_size hz
     ·obtain ⟨_,e,_⟩:=h1;exact Heap.lt_size e
    exact Nat.ne_of_lt hlt
   rw [zR this]
   exact hc1.1
 done:=fun X hp hw hK hc i pins s σ H E I fp st stop=>by
  subst hp hw hK
  obtain ⟨⟨old,hz⟩,h1⟩:=st
  obtain ⟨xs,qa,hend⟩:=stop
  obtain ⟨vs,rv,pv,_⟩:=I.list qa
  have l1:=rv.length
  refine wpAny_pyNext_enum_end (I.ok.hd hc) hz h1 pv.isList (by rw [Array.getElem?_eq_none_iff,List.size_toArray];omega) fun h' hk=>⟨rfl,?_⟩
  refine I.turnedL (ch:=[z,i1]) (t':=s.toks) (fun c o hcn e=>?_) (fun c hcn=>fp c hcn)
  simp only [List.mem_cons,List.not_mem_nil,or_false,not_or] at hcn
  exact hk c o hcn.2 e
 self:=fun A i s Q E st h=>by
  obtain ⟨⟨old,hz⟩,_⟩:=st
  exact wpAny_pyIter_enum hz h
def zzs (K:PySem.W.Frag) (ta:TA):TI:=fun σ H R=>ta σ H fun vs H1=> ∃(a:Addr) (xs:List V),vs=[.ref a]∧SqL K H1 a xs∧R (Ite K a) H1
theorem zuf {X:Cx} {elts:List Expr} {x1} {tp:Pos} {e1:Expr} {ta:TA} {p pos:Pos} (hg:Gl X "enumerate") (hm:X.mg "enumerate" =none) (ha:PA X [e1] ta) (hs:starEach [e1] X.env=[(false,eval e1 X.env)]:=by rfl):
  PI X (.Tuple elts x1 tp) (.Call (.Name "enumerate" p) [e1] [] pos) (zzs X.K ta):=by
 intro pins s σ H R I h
 refine Call_ (ze3 I hg hm (by rfl) (PyProof.Rows.callWith_type1 (zt (ha pos pins s σ H _ I h) fun us s1 ⟨vs,H1,I1,r1,q1⟩=>?_) hs rfl))
 obtain ⟨a,xs,rfl,qa,q⟩:=q1
 obtain ⟨u,rfl,ru⟩:=zhz r1
 cases ru
 obtain ⟨vs,rva,pa,_⟩:=I1.list qa
 refine call_enumerate_list pa.isList fun h' hz hi1 hsz hk=>?_
 refine wpAny_pyIter_enum hz ?_
 have I2:Inv X pins σ H1 {s1 with heap:=h'}:=I1.kept (t':=s1.toks) hk
 refine ⟨_,[s1.heap.objs.size+1,s1.heap.objs.size],_,_,H1,rfl,I2,zp6 (a:=a) (Nat.ne_of_gt (Nat.lt_succ_self _)),⟨⟨_,hz⟩,hi1⟩,fun c hc=>?_,q⟩
 have hge:s1.heap.objs.size≤c:=by
  simp only [List.mem_cons,List.not_mem_nil,or_false] at hc
  rcases hc with rfl | rfl
  all_goals first | exact Nat.le_refl _ | exact Nat.le_add_right _ _
 exact I1.fpOk hge (I1.hok.fresh hge)
section
variable {X:Cx}
theorem vals3 {x y z:V} {us:List Value} (r:Vals [x,y,z] us): ∃u v t,us=[u,v,t]∧RelV x u∧RelV y v∧RelV z t:=by
 cases r with
 | cons a r=>cases r with
  | cons b r=>cases r with
   | cons c r=>cases r;exact ⟨_,_,_,rfl,a,b,c⟩
theorem zov (hc:X.calm=true):CallR X (.builtin "min") (fun xs H Q=> ∃i j k:Int,xs=[.int i,.int j,.int k]∧Q (.int (min i (min j k))) H):=by
 intro pins s σ H xs us Q I r h
 obtain ⟨i,j,k,rfl,q⟩:=h
 obtain ⟨u,v,t,rfl,⟨t1,rfl⟩,⟨t2,rfl⟩,⟨t3,rfl⟩⟩:=vals3 r
 refine min_three_ints (I.ok.hd hc) fun h' tk kk=>⟨_,H,I.kept kk,?_,q⟩
 by_cases h1:j < i
 ·rw [if_pos h1]
  by_cases h2:k < j
  ·rw [if_pos h2,show min i (min j k)=k by omega];exact ⟨_,rfl⟩
  ·rw [if_neg h2,show min i (min j k)=j by omega];exact ⟨_,rfl⟩
 ·rw [if_neg h1]
  by_cases h2:k < i
  ·rw [if_pos h2,show min i (min j k)=k by omega];exact ⟨_,rfl⟩
  ·rw [if_neg h2,show min i (min j k)=i by omega];exact ⟨_,rfl⟩
end
def ltI (a b:Int):Bool:=decide (a < b)
theorem ordI:Srt.Ord ltI:=⟨fun a b c h1 h2=>by
 have h1:=of_decide_eq_false h1
 have h2:=of_decide_eq_false h2
 exact decide_eq_false (by omega),fun a b h=>by
 have h:=of_decide_eq_true h
 exact decide_eq_false (by omega)⟩
section
variable {X:Cx}
theorem call_sortedI:CallR X (.builtin "sorted") (fun xs H Q=> ∃(p:Addr) (ns:List Int),xs=[.ref p]∧SqL X.K H p (ns.map V.int)∧ns.length≤100000∧
  ∀(l:Addr) (ns':List Int),H l=none→ns'.Perm ns→ns'.Pairwise (fun a b=>a≤b)→Q (.ref l) (zj H l (.lst (ns'.map V.int)))):=by
 intro pins s σ H xs us Q I r h
 obtain ⟨p,ns,rfl,hq,hbig,h⟩:=h
 obtain ⟨u,rfl,rx⟩:=zhz r
 cases rx
 obtain ⟨its,rv,pl,hz⟩:=I.list hq
 have l1:=rv.length
 rw [List.length_map] at l1
 have one: ∀i,i < ns.length→∃t,its.getD i Value.none=Value.int (ns.getD i 0) t:=fun i hi=>by
  obtain ⟨v,ev,rvi⟩:=rv.get (i:=i) (x:=V.int ns[i]) (by simp [hi])
  obtain ⟨t,rfl⟩:=rvi
  refine ⟨t,?_⟩
  rw [List.getD_eq_getElem?_getD,ev,List.getD_eq_getElem?_getD,zy hi]
  rfl
 refine zhg ordI (fun i=>ns.getD i 0) oneType' pl.isList (by omega) (fun i j hi hj e=>?_) (fun h6 Q' k6 h2 q=>?_) (fun h6 i j C k6 hi hj hC=>?_) fun P Pp Up=>?_
 ·obtain ⟨t,e1⟩:=one i (by omega)
  obtain ⟨t',e2⟩:=one j (by omega)
  rw [e1,e2] at e
  exact (Value.int.inj e).1
 ·refine kas_kind (s:={s with heap:=h6}) (T:= .type "int") h2 (fun v hv=>?_) (by decide) (by decide) q
  obtain ⟨i,hi,e⟩:=List.mem_iff_getElem.mp hv
  obtain ⟨t,e1⟩:=one i (by omega)
  rw [List.getD_eq_getElem?_getD,zy hi] at e1
  have e1:its[i]=_:=e1
  rw [←e,e1]
  exact fun A Q E s _ q=>wpAny_pure q
 ·unfold kas_ask
  obtain ⟨t,e1⟩:=one i (by omega)
  obtain ⟨t',e2⟩:=one j (by omega)
  rw [e1,e2,keyLt'_oneType]
  exact oneLt_int hC
 ·obtain ⟨e,he⟩:=sortedAll_at s.heap its (List.toArray (P.toList.map fun i=>its.getD i Value.none))
  have mem: ∀i∈P.toList,i < ns.length:=fun i hi=>by
   have:=List.mem_range.mp (Pp.perm.mem_iff.mp hi)
   omega
  have hv:Vals ((P.toList.map fun i=>ns.getD i 0).map V.int) (P.toList.map fun i=>its.getD i Value.none):=by
   rw [List.map_map]
   refine Paired.mapL fun i hi=>?_
   obtain ⟨t,e1⟩:=one i (mem i hi)
   rw [e1]
   exact ⟨t,rfl⟩
  have hpl:P.toList.length=its.length:=by rw [Array.length_toList,Pp.size]
  refine ⟨.ref (s.heap.objs.size+1),_,I.laid (t':=s.toks) (o:= .lst ((P.toList.map fun i=>ns.getD i 0).map V.int)) (fun b o q=>sortedAll_old q) (Nat.le_succ _) ?_,rfl,h _ (P.toList.map fun i=>ns.getD i 0) (I.hok.fresh (Nat.le_succ _)) ?_ ?_⟩
  ·exact ⟨by rw [List.length_map,List.length_map];rw [List.length_map] at hz;omega,_,e,hv,he⟩
  ·have q:=Pp.perm.map fun i=>ns.getD i 0
   have e:its.length=ns.length:=by omega
   rw [e,zee] at q
   exact q
  ·rw [List.pairwise_iff_getElem]
   intro i j hi hj hij
   have hj':j < its.length:=by rw [List.length_map] at hj;omega
   have q:=Up i j (Nat.le_of_lt hij) hj'
   have gi:P.getD i 0=P.toList[i]'(by rw [hpl];omega):=by
    have:i < P.size:=by rw [Pp.size];omega
    simp [Array.getD,this]
   have gj:P.getD j 0=P.toList[j]'(by rw [hpl];omega):=by
    have:j < P.size:=by rw [Pp.size];omega
    simp [Array.getD,this]
   unfold Srt.ky at q
   rw [gi,gj] at q
   have q:=of_decide_eq_false q
   rw [List.getElem_map,List.getElem_map]
   exact Int.not_lt.mp q
end
theorem zjt {a b:List Int} (p:a.Perm b) (ha:a.Pairwise (fun x y=>x≤y)) (hb:b.Pairwise (fun x y=>x≤y)):a=b:=
 p.eq_of_pairwise (fun x y _ _ h1 h2=>by omega) ha hb
theorem Paired.of_get {α β:Type} {F:α→β→Prop}: ∀{l:List α} {m:List β},l.length=m.length→(∀(i:Nat) a b,l[i]? =some a→m[i]? =some b→F a b)→PySem.Paired F l m
 | [],[],_,_=> .nil
 | [],_::_,h,_=>by simp at h
 | _::_,[],h,_=>by simp at h
 | a::l,b::m,h,f=> .cons (f 0 a b rfl rfl) (Paired.of_get (by simpa using h) fun i x y hx hy=>f (i+1) x y (by simpa using hx) (by simpa using hy))
section
variable {X:Cx}
end
abbrev RI:String:="list_reverseiterator"
theorem zyk:typeLookup (.type RI) "__len__" =pure none:=by rw [typeLookup_type,builtinLookup_eq_fast];kernel_rfl
theorem zzn:typeLookup (.type RI) "__length_hint__" =pure (some (.builtin "list_reverseiterator.__length_hint__")):=by rw [typeLookup_type,builtinLookup_eq_fast];kernel_rfl
section
variable {prog:Program} {w:World} {A:Around} {E:Value→Shared→Prop} {s:Shared}
theorem ztd {r:Addr} {Q:Bool→Shared→Prop} (hT:s.TypeIs (.ref r) RI) (h:Q false s):wpAny (model prog w) A (Builtin.List.listLengthHint (.ref r)) Q E s:=by
 unfold PySem.Builtin.List.listLengthHint
 refine wpAny_bind (wpAny_specialOf hT zyk ?_)
 wp_delta
 refine wpAny_ite_split (fun z=>absurd z (by decide+kernel)) fun _=>?_
 refine wpAny_ite_split (fun z=>absurd z (by decide+kernel)) fun _=>?_
 refine wpAny_bind (wpAny_specialOf hT zzn ?_)
 generalize hid:("list_reverseiterator.__length_hint__" :String)=id0
 wp_delta
 rw [show splitId id0=some (RI,"__length_hint__") from by subst hid;decide+kernel]
 subst hid
 refine wpAny_bind (wpAny_isInstance (T:=RI) (b:=true) hT (by rw [isSubtype_type];kernel_rfl) ?_)
 refine wpAny_ite_split (fun z=>absurd z (by decide)) fun _=>?_
 refine wpAny_ite_split (fun _=>?_) (fun z=>absurd (by decide+kernel) z)
 refine wpAny_ite_split (fun z=>absurd z (by decide+kernel)) fun _=>?_
 exact wpAny_pure h
variable {I l:Addr} {items:Array Value}
def RvP (items:Array Value) (i:Nat) (v:Value):Prop:=items[items.size - 1 - i]? =some v
theorem zpm {R:Result→Shared→Prop} (hh:A.handled=none) (hit:s.heap.IsRevIter I l ((items.size:Int) - 1)) (hl:s.heap.IsList l items) (hne:l≠I) (S:Addr) (hSI:S≠I) (hSl:S≠l) (res:Value) (c₀:Nat)
  (hS:s.heap.get? S=some {cls:= .type "list",data:= .seq #[] c₀})
  (hR: ∀h' tk acc' c',(∀b o,b≠S→b≠I→s.heap.get? b=some o→h'.get? b=some o)→h'.get? S=some {cls:= .type "list",dict:=none,data:= .seq acc' c',slots:= #[]}→ItemsOf (RvP items) acc' items.size→R (.ok (.ret res)) {s with heap:=h',toks:=tk}) (hn:items.size≤sizeLine):
  wpAny (model prog w) A.in1 (Builtin.List.listExtendWith (.ref S) (.ref I) res)
   (fun fin s'=>match fin with | .done f=>R (.ok f) s' | .again c'=>c'.quiet=true∧codeAny (model prog w) A c' R s') (fun e s'=>R (.error e) s') s:=by
 have hSf:S∉[I,l]:=by simp only [List.mem_cons,List.not_mem_nil,or_false,not_or];exact ⟨hSI,hSl⟩
 have W:=Walks.listRev (prog:=prog) (w:=w) (A:=A.in1) hh I l hne items
 have st0: ∀h:Heap,h.IsRevIter I l ((items.size:Int) - 1)→h.IsList l items→0≤items.size∧h.IsRevIter I l ((items.size:Int) - 1 - ((0:Nat):Int))∧h.IsList l items:=fun h a b=>⟨Nat.zero_le _,by rw [show (items.size:Int) - 1 - ((0:Nat):Int)=(items.size:Int) - 1 by omega];exact a,b⟩
 have key: ∀(h:Heap) (c₁ tk:Nat),h.IsRevIter I l ((items.size:Int) - 1)→h.IsList l items→(∀b o,b≠S→b≠I→s.heap.get? b=some o→h.get? b=some o)→
   h.get? S=some {cls:= .type "list",data:= .seq #[] c₁}→codeAny (model prog w) A (.builtin "list.extend.loop" ⟨[.ref S,.ref I,res],[]⟩) R {s with heap:=h,toks:=tk}:=by
  intro h c₁ tk h1 h2 hk hS₁
  refine codeAny_extend_loopS W.toS hn S hSf res items.size 0 _ #[] c₁ rfl (Nat.zero_le _) (st0 h h1 h2) hS₁ (ItemsOf.nil _) fun s' acc' c' hm hS' hacc=>?_
  rw [Moved.eq_with hm]
  refine hR s'.heap s'.toks acc' c' (fun b o hb hbI e=>hm.heap b o (fun hmem=>?_) (hk b o hb hbI e)) hS' hacc
  rcases List.mem_cons.mp hmem with e' | hmem
  ·exact hb e'
  ·exact hbI (List.mem_singleton.mp hmem)
 unfold PySem.Builtin.List.listExtendWith
 refine wpAny_bind (wpAny_typeOf (T:=RI) hit.typeIs ?_)
 have h1:Builtin.List.listSameRef (.ref S) (.ref I)=false:=by simp [Builtin.List.listSameRef,hSI]
 have n1:(Value.type RI==Value.type "list")=false:=by decide
 have n2:(Value.type RI==Value.type "tuple")=false:=by decide
 simp only [h1,n1,n2,Bool.or_false,Bool.false_eq_true,if_false]
 refine wpAny_bind (wpAny_pyIter_revIter hit ?_)
 refine wpAny_bind (wpAny_holding (ztd hit.typeIs ?_))
 refine wpAny_ite_split (fun _=>?_) (fun _=>wpAny_pure ⟨plainId_quiet PySem.F.plain_extend_loop _,key _ c₀ _ hit hl (fun b o _ _ e=>e) hS⟩)
 refine wpAny_bind (wpAny_rule ?_)
 refine wpAny_bind ?_
 show wpAny _ _ (updateSeq S (fun z=>z.push .none) >>=fun _=>updateSeq S (fun z=>z.pop)) _ _ _
 refine wpAny_bind (wpAny_updateSeq hS rfl ?_)
 have hS₂:=Heap.get?_update_self (Obj.mapSeq (fun z=>z.push Value.none)) hS rfl
 refine wpAny_updateSeq (hz:=by seq_fits) hS₂ rfl ?_
 have hS₃:=Heap.get?_update_self (Obj.mapSeq (fun z=>z.pop)) hS₂ rfl
 have oth: ∀b o,b≠S→s.heap.get? b=some o→((s.heap.update S (Obj.mapSeq (fun z=>z.push Value.none))).update S (Obj.mapSeq (fun z=>z.pop))).get? b=some o:=fun b o hb e=>(Heap.get?_update_other _ _ (Ne.symm hb)).trans ((Heap.get?_update_other _ _ (Ne.symm hb)).trans e)
 exact wpAny_pure ⟨plainId_quiet PySem.F.plain_extend_loop _,key _ _ _ (hit.at fun o e=>oth I o hSI.symm e) (hl.at fun o e=>oth l o hSl.symm e) (fun b o hb _ e=>oth b o hb e) hS₃⟩
theorem zup {Q:Value→Shared→Prop} (hh:A.handled=none) (hit:s.heap.IsRevIter I l ((items.size:Int) - 1)) (hl:s.heap.IsList l items) (hne:l≠I) (hn:items.size≤sizeLine)
  (hQ: ∀h' tk acc' c',(∀b o,b≠I→s.heap.get? b=some o→h'.get? b=some o)→h'.get? s.heap.objs.size=some {cls:= .type "list",dict:=none,data:= .seq acc' c',slots:= #[]}→ItemsOf (RvP items) acc' items.size→Q (.ref s.heap.objs.size) {s with heap:=h',toks:=tk}):
  wpAny (model prog w) A (call (.type "list") [.ref I]) Q E s:=by
 refine callType_codes (Q₁:=fun z s₁=>z= .ref s.heap.objs.size∧s₁={s with heap:=s.heap.push {cls:= .type "list",data:= .seq #[]}}) PySem.F.called_list (PySem.F.typeCall_list_1 _) PySem.F.entry_list_init
  (code_list_new _ ⟨rfl,rfl⟩) fun z s₁ h₁=>?_
 obtain ⟨rfl,rfl⟩:=h₁
 have hS:(s.heap.push {cls:= .type "list",data:= .seq #[]}).get? s.heap.objs.size=some {cls:= .type "list",data:= .seq #[]}:=Heap.get?_push_size _ rfl
 have ltI:I < s.heap.objs.size:=let ⟨_,ho,_⟩:=hit;Heap.lt_size ho
 have ltl:l < s.heap.objs.size:=let ⟨_,ho,_⟩:=hl;Heap.lt_size ho
 refine ⟨⟨_,hS,rfl⟩,PySem.F.args_list_init_2 _ _,?_⟩
 show wpAny _ _ (do let old ←Builtin.List.listItems (.ref s.heap.objs.size);Builtin.List.listUpdate (.ref s.heap.objs.size) (fun _=> #[]);letGo old.toList.reverse;Builtin.List.listExtendWith (.ref s.heap.objs.size) (.ref I) .none) _ _ _
 refine wpAny_bind ?_
 unfold PySem.Builtin.List.listItems
 refine wpAny_bind (wpAny_seqItems hS rfl (wpAny_pure ?_))
 show wpAny _ _ (updateSeq s.heap.objs.size (fun _=> #[]) >>=fun _=>letGo (#[]:Array Value).toList.reverse >>=fun _=>Builtin.List.listExtendWith (.ref s.heap.objs.size) (.ref I) .none) _ _ _
 refine wpAny_bind (wpAny_updateSeq hS rfl ?_)
 have hS₂:=Heap.get?_update_self (Obj.mapSeq (fun _=>(#[]:Array Value))) hS rfl
 have oth: ∀b o,b≠s.heap.objs.size→s.heap.get? b=some o→((s.heap.push {cls:= .type "list",data:= .seq #[]}).update s.heap.objs.size (Obj.mapSeq (fun _=>(#[]:Array Value)))).get? b=some o:=
  fun b o hb e=>(Heap.get?_update_other _ _ (Ne.symm hb)).trans (Heap.get?_push_of_some _ e)
 refine wpAny_bind (wpAny_letGo ?_)
 refine zpm (A:=A.in1) hh (hit.at fun o e=>oth I o (Nat.ne_of_lt ltI) e) (hl.at fun o e=>oth l o (Nat.ne_of_lt ltl) e) hne _ (Nat.ne_of_gt ltI) (Nat.ne_of_gt ltl) .none _ hS₂ (fun h' tk acc' c' hk hS' hacc=>?_) hn
 exact ⟨rfl,hQ h' tk acc' c' (fun b o hb e=>hk b o (Nat.ne_of_lt (Heap.lt_size e)) hb (oth b o (Nat.ne_of_lt (Heap.lt_size e)) e)) hS' hacc⟩
end
end L2
namespace L3
open PySem L2
inductive V3 where
 | non | bl (b:Bool) | int (i:Int) | str (x:Str) | ty (n:String)
 | tup (xs:List V3) | lst (xs:List V3) | scr (ns:List Int)
 | dK (kvs:List (zq×V3)) | dT (kvs:List (MK×V3))
 | obj (c:Str) (fs:List (Str×V3)) | cls (c:Str) | fn (n:Str) (env:List V3)
 | loc (n:Nat)
inductive C3 where
 | lst (xs:List V3) | dK (kvs:List (zq×V3)) | dT (kvs:List (MK×V3)) | ins (c:Str) (fs:List (Str×V3)) | dead
inductive Vl where
 | v (x:V3) | m (c:C3)
structure X3 where
 c:Str
 nm:Option V3
abbrev S3:=List (Option Vl)
abbrev H3:=List C3
inductive Res (α:Type) where
 | ok (r:α) (h:H3) | ex (x:X3) (h:H3) | no
abbrev E3:=S3→H3→Res Vl
noncomputable def C3.fz:C3→Option V3
 | .lst xs=>some (.lst xs)
 | .dK kvs=>some (.dK kvs)
 | .dT kvs=>some (.dT kvs)
 | .ins c fs=>some (.obj c fs)
 | .dead=>none
def Vl.fz:Vl→Option V3
 | .v x=>some x
 | .m c=>c.fz
noncomputable def Res.bind {α β:Type} (r:Res α) (k:α→H3→Res β):Res β:=match r with
 | .ok r h=>k r h
 | .ex x h=> .ex x h
 | .no=> .no
structure Kx where
 K:PySem.W.Frag
 cl:Str→Option Addr
def KnL (K:PySem.W.Frag) (a:Addr) (ns:List Int):Prop:=
 ∃(o:Obj) (its:Array Value) (n:Nat),K.lookup a=some o∧o.cls= .type "list" ∧o.dict=none∧o.data= .seq its n∧its.size≤sizeLine∧Vals (ns.map V.int) its.toList
mutual
inductive Rep (κ:Kx) (β:List (Option Addr)) (O:Addr→Prop) (H:Hp):V3→V→Prop
 | non:Rep κ β O H .non .non
 | bl (b:Bool):Rep κ β O H (.bl b) (.bl b)
 | int (i:Int):Rep κ β O H (.int i) (.int i)
 | str (x:Str):Rep κ β O H (.str x) (.str x)
 | ty (n:String):Rep κ β O H (.ty n) (.ty n)
 | tup {xs:List V3} {ys:List V} {a:Addr}:H a=some (.tup ys)→some a∉β→¬O a→Reps κ β O H xs ys→Rep κ β O H (.tup xs) (.ref a)
 | lst {xs:List V3} {ys:List V} {a:Addr}:H a=some (.lst ys)→some a∉β→¬O a→Reps κ β O H xs ys→Rep κ β O H (.lst xs) (.ref a)
 | scr {ns:List Int} {a:Addr} {o:Obj}:H a=some (.frz o (.lst (ns.map V.int)))→some a∉β→¬O a→Rep κ β O H (.scr ns) (.ref a)
 | scrK {ns:List Int} {a:Addr}:KnL κ.K a ns→Rep κ β O H (.scr ns) (.ref a)
 | dK {kvs:List (zq×V3)} {ws:List (zq×V)} {a:Addr}:H a=some (.dK ws)→some a∉β→¬O a→RepP κ β O H kvs ws→Rep κ β O H (.dK kvs) (.ref a)
 | dT {kvs:List (MK×V3)} {ws:List (MK×V)} {a:Addr}:H a=some (.dT ws)→some a∉β→¬O a→RepP κ β O H kvs ws→Rep κ β O H (.dT kvs) (.ref a)
 | obj {c:Str} {C:Addr} {fs:List (Str×V3)} {gs:List (Str×V)} {a dx:Addr}:κ.cl c=some C→H a=some (.ins C dx gs)→some a∉β→¬O a→RepP κ β O H fs gs→Rep κ β O H (.obj c fs) (.ref a)
 | cls {c:Str} {C:Addr}:κ.cl c=some C→Rep κ β O H (.cls c) (.ref C)
 | loc {n:Nat} {v:V}:n < β.length→(∀a,β[n]? =some (some a)→v= .ref a)→Rep κ β O H (.loc n) v
inductive Reps (κ:Kx) (β:List (Option Addr)) (O:Addr→Prop) (H:Hp):List V3→List V→Prop
 | nil:Reps κ β O H [] []
 | cons {x:V3} {y:V} {xs:List V3} {ys:List V}:Rep κ β O H x y→Reps κ β O H xs ys→Reps κ β O H (x::xs) (y::ys)
inductive RepP (κ:Kx) (β:List (Option Addr)) (O:Addr→Prop) (H:Hp):{α:Type}→List (α×V3)→List (α×V)→Prop
 | nil {α:Type}:RepP κ β O H (α:=α) [] []
 | cons {α:Type} {k:α} {x:V3} {y:V} {xs:List (α×V3)} {ys:List (α×V)}:Rep κ β O H x y→RepP κ β O H xs ys→RepP κ β O H ((k,x)::xs) ((k,y)::ys)
end
structure Ext (M:Addr→Prop) (β:List (Option Addr)) (H:Hp) (β':List (Option Addr)) (H':Hp):Prop where
 keep: ∀a o,H a=some o→some a∉β→¬M a→H' a=some o∧some a∉β'
 len:β.length≤β'.length
 bet: ∀i a,i < β.length→β'[i]? =some (some a)→β[i]? =some (some a)
 there: ∀a o,H a=some o→∃o',H' a=some o'
 nwb: ∀(i:Nat) a,β.length≤i→β'[i]? =some (some a)→H a=none
theorem nwb0 {β:List (Option Addr)} {H:Hp}: ∀(i:Nat) a,β.length≤i→β[i]? =some (some a)→H a=none:=fun i a h e=>by
 have:=(List.getElem?_eq_some_iff.mp e).1;omega
abbrev No:Addr→Prop:=fun _=>False
theorem Ext.refl {M:Addr→Prop} {β:List (Option Addr)} {H:Hp}:Ext M β H β H:=⟨fun _ _ h n _=>⟨h,n⟩,Nat.le_refl _,fun _ _ _ h=>h,fun _ o h=>⟨o,h⟩,nwb0⟩
theorem zju {β β1 β2:List (Option Addr)} {H H1:Hp} (t: ∀a o,H a=some o→∃o',H1 a=some o') (bet: ∀i a,i < β1.length→β2[i]? =some (some a)→β1[i]? =some (some a)) (n1: ∀(i:Nat) a,β.length≤i→β1[i]? =some (some a)→H a=none)
  (n2: ∀(i:Nat) a,β1.length≤i→β2[i]? =some (some a)→H1 a=none): ∀(i:Nat) a,β.length≤i→β2[i]? =some (some a)→H a=none:=fun i a hi h=>by
 by_cases h1:i < β1.length
 ·exact n1 i a hi (bet i a h1 h)
 ·cases w:H a with
  | none=>rfl
  | some o=>
   obtain ⟨o',z⟩:=t a o w
   rw [n2 i a (by omega) h] at z;cases z
theorem Ext.trans0 {β β1 β2:List (Option Addr)} {H H1 H2:Hp} (a:Ext No β H β1 H1) (b:Ext No β1 H1 β2 H2):Ext No β H β2 H2:=
 ⟨fun x o h n m=>let ⟨h1,n1⟩:=a.keep x o h n m;b.keep x o h1 n1 m,Nat.le_trans a.len b.len,fun i x hi h=>a.bet i x hi (b.bet i x (Nat.lt_of_lt_of_le hi a.len) h),fun x o h=>let ⟨o1,h1⟩:=a.there x o h;b.there x o1 h1,zju a.there (fun i x hi h=>b.bet i x hi h) a.nwb b.nwb⟩
section
variable {κ:Kx} {β β':List (Option Addr)} {O O':Addr→Prop} {H H':Hp} {M:Addr→Prop}
mutual
theorem Rep.ext (e:Ext M β H β' H') (hM: ∀a,M a→O a) (hO: ∀a o,H a=some o→¬O a→¬O' a): ∀{x:V3} {y:V},Rep κ β O H x y→Rep κ β' O' H' x y
 | _,_,.non=> .non
 | _,_,.bl b=> .bl b
 | _,_,.int i=> .int i
 | _,_,.str x=> .str x
 | _,_,.ty n=> .ty n
 | _,_,.tup h n o r=>let ⟨h1,n1⟩:=e.keep _ _ h n fun m=>o (hM _ m);.tup h1 n1 (hO _ _ h o) (Reps.ext e hM hO r)
 | _,_,.lst h n o r=>let ⟨h1,n1⟩:=e.keep _ _ h n fun m=>o (hM _ m);.lst h1 n1 (hO _ _ h o) (Reps.ext e hM hO r)
 | _,_,.scr h n o=>let ⟨h1,n1⟩:=e.keep _ _ h n fun m=>o (hM _ m);.scr h1 n1 (hO _ _ h o)
 | _,_,.scrK h=> .scrK h
 | _,_,.dK h n o r=>let ⟨h1,n1⟩:=e.keep _ _ h n fun m=>o (hM _ m);.dK h1 n1 (hO _ _ h o) (RepP.ext e hM hO r)
 | _,_,.dT h n o r=>let ⟨h1,n1⟩:=e.keep _ _ h n fun m=>o (hM _ m);.dT h1 n1 (hO _ _ h o) (RepP.ext e hM hO r)
 | _,_,.obj k h n o r=>let ⟨h1,n1⟩:=e.keep _ _ h n fun m=>o (hM _ m);.obj k h1 n1 (hO _ _ h o) (RepP.ext e hM hO r)
 | _,_,.cls k=> .cls k
 | _,_,.loc l h=> .loc (Nat.lt_of_lt_of_le l e.len) fun a q=>h a (e.bet _ _ l q)
theorem Reps.ext (e:Ext M β H β' H') (hM: ∀a,M a→O a) (hO: ∀a o,H a=some o→¬O a→¬O' a): ∀{x:List V3} {y:List V},Reps κ β O H x y→Reps κ β' O' H' x y
 | _,_,.nil=> .nil
 | _,_,.cons a r=> .cons (Rep.ext e hM hO a) (Reps.ext e hM hO r)
theorem RepP.ext (e:Ext M β H β' H') (hM: ∀a,M a→O a) (hO: ∀a o,H a=some o→¬O a→¬O' a): ∀{α:Type} {x:List (α×V3)} {y:List (α×V)},RepP κ β O H x y→RepP κ β' O' H' x y
 | _,_,_,.nil=> .nil
 | _,_,_,.cons a r=> .cons (Rep.ext e hM hO a) (RepP.ext e hM hO r)
end
end
section
variable {κ:Kx} {β β':List (Option Addr)} {O O':Addr→Prop} {H H':Hp} {M:Addr→Prop}
theorem Rep.sub (h: ∀a,O' a→O a) {x:V3} {y:V} (r:Rep κ β O H x y):Rep κ β O' H x y:=r.ext (M:=No) Ext.refl (fun _ z=>z.elim) fun a _ _ n m=>n (h a m)
theorem Reps.sub (h: ∀a,O' a→O a) {x:List V3} {y:List V} (r:Reps κ β O H x y):Reps κ β O' H x y:=r.ext (M:=No) Ext.refl (fun _ z=>z.elim) fun a _ _ n m=>n (h a m)
theorem RepP.sub (h: ∀a,O' a→O a) {α:Type} {x:List (α×V3)} {y:List (α×V)} (r:RepP κ β O H x y):RepP κ β O' H x y:=r.ext (M:=No) Ext.refl (fun _ z=>z.elim) fun a _ _ n m=>n (h a m)
theorem Rep.ext0 (e:Ext No β H β' H') {x:V3} {y:V} (r:Rep κ β O H x y):Rep κ β' O H' x y:=r.ext e (fun _ z=>z.elim) fun _ _ _ n=>n
theorem Reps.ext0 (e:Ext No β H β' H') {x:List V3} {y:List V} (r:Reps κ β O H x y):Reps κ β' O H' x y:=r.ext e (fun _ z=>z.elim) fun _ _ _ n=>n
theorem RepP.ext0 (e:Ext No β H β' H') {α:Type} {x:List (α×V3)} {y:List (α×V)} (r:RepP κ β O H x y):RepP κ β' O H' x y:=r.ext e (fun _ z=>z.elim) fun _ _ _ n=>n
theorem Reps.length: ∀{x:List V3} {y:List V},Reps κ β O H x y→x.length=y.length
 | _,_,.nil=>rfl
 | _,_,.cons _ r=>congrArg (· +1) r.length
theorem RepP.length {α:Type}: ∀{x:List (α×V3)} {y:List (α×V)},RepP κ β O H x y→x.length=y.length
 | _,_,.nil=>rfl
 | _,_,.cons _ r=>congrArg (· +1) r.length
theorem Reps.get: ∀{xs:List V3} {ys:List V} {i:Nat} {x:V3},Reps κ β O H xs ys→xs[i]? =some x→∃y,ys[i]? =some y∧Rep κ β O H x y
 | _,_,_,_,.nil,e=>by simp at e
 | _,_,0,_,.cons r _,e=>by simp at e;subst e;exact ⟨_,rfl,r⟩
 | _,_,i+1,x,.cons _ t,e=>by
  obtain ⟨u,h1,h2⟩:=Reps.get (i:=i) (x:=x) t (by simpa using e)
  exact ⟨u,by simpa using h1,h2⟩
theorem Reps.get': ∀{xs:List V3} {ys:List V} {i:Nat} {y:V},Reps κ β O H xs ys→ys[i]? =some y→∃x,xs[i]? =some x∧Rep κ β O H x y
 | _,_,_,_,.nil,e=>by simp at e
 | _,_,0,_,.cons r _,e=>by simp at e;subst e;exact ⟨_,rfl,r⟩
 | _,_,i+1,x,.cons _ t,e=>by
  obtain ⟨u,h1,h2⟩:=Reps.get' (i:=i) (y:=x) t (by simpa using e)
  exact ⟨u,by simpa using h1,h2⟩
theorem Reps.append: ∀{xs:List V3} {ys:List V} {xs':List V3} {ys':List V},Reps κ β O H xs ys→Reps κ β O H xs' ys'→Reps κ β O H (xs++xs') (ys++ys')
 | _,_,_,_,.nil,s=>s
 | _,_,_,_,.cons r t,s=> .cons r (Reps.append t s)
theorem Reps.set {x:V3} {u:V} (r:Rep κ β O H x u): ∀{xs:List V3} {us:List V} (i:Nat),Reps κ β O H xs us→Reps κ β O H (xs.set i x) (us.set i u)
 | _,_,_,.nil=> .nil
 | _,_,0,.cons _ t=> .cons r t
 | _,_,i+1,.cons q t=> .cons q (Reps.set r i t)
theorem Reps.take: ∀{xs:List V3} {us:List V} (n:Nat),Reps κ β O H xs us→Reps κ β O H (xs.take n) (us.take n)
 | _,_,0,_=> .nil
 | _,_,_+1,.nil=> .nil
 | _,_,n+1,.cons r t=> .cons r (Reps.take n t)
theorem Reps.dropLast {xs:List V3} {us:List V} (h:Reps κ β O H xs us):Reps κ β O H xs.dropLast us.dropLast:=by
 rw [List.dropLast_eq_take,List.dropLast_eq_take,h.length];exact h.take _
theorem Reps.rep {xs:List V3} {us:List V} (h:Reps κ β O H xs us): ∀k:Nat,Reps κ β O H (List.replicate k xs).flatten (List.replicate k us).flatten
 | 0=> .nil
 | k+1=>by
  rw [List.replicate_succ,List.replicate_succ,List.flatten_cons,List.flatten_cons]
  exact h.append (Reps.rep h k)
theorem RepP.lookup {α:Type} [BEq α] {f:α} {x:V3}: ∀{xs:List (α×V3)} {ys:List (α×V)},RepP κ β O H xs ys→xs.lookup f=some x→∃y,ys.lookup f=some y∧Rep κ β O H x y
 | _,_,.nil,e=>by cases e
 | _,_,.cons (k:=k) r t,e=>by
  rw [List.lookup_cons] at e ⊢
  cases q:f==k with
  | true=>rw [q] at e;cases e;exact ⟨_,rfl,r⟩
  | false=>rw [q] at e;exact RepP.lookup t e
theorem RepP.lookup_none {α:Type} [BEq α] {f:α}: ∀{xs:List (α×V3)} {ys:List (α×V)},RepP κ β O H xs ys→xs.lookup f=none→ys.lookup f=none
 | _,_,.nil,_=>rfl
 | _,_,.cons (k:=k) r t,e=>by
  rw [List.lookup_cons] at e ⊢
  cases q:f==k with
  | true=>rw [q] at e;cases e
  | false=>rw [q] at e;exact RepP.lookup_none t e
end
def CellR (κ:Kx) (β:List (Option Addr)) (O:Addr→Prop) (H:Hp):C3→Addr→Prop
 | .lst xs,a=> ∃ys,H a=some (.lst ys)∧Reps κ β O H xs ys
 | .dK kvs,a=> ∃ws,H a=some (.dK ws)∧RepP κ β O H kvs ws
 | .dT kvs,a=> ∃ws,H a=some (.dT ws)∧RepP κ β O H kvs ws
 | .ins c fs,a=> ∃C dx gs,κ.cl c=some C∧H a=some (.ins C dx gs)∧RepP κ β O H fs gs
 | .dead,_=>False
structure RelH (κ:Kx) (O:Addr→Prop) (β:List (Option Addr)) (h:H3) (H:Hp):Prop where
 len:β.length=h.length
 inj: ∀(i j:Nat) a,β[i]? =some (some a)→β[j]? =some (some a)→i=j
 off: ∀a,O a→some a∉β
 trk: ∀a,O a→∃o,H a=some o∧∀ys,o≠HO.tup ys
 btr: ∀(i:Nat) a,β[i]? =some (some a)→∃o,H a=some o∧∀ys,o≠HO.tup ys
 cell: ∀(i:Nat) c,h[i]? =some c→c= .dead∨∃a,β[i]? =some (some a)∧CellR κ β O H c a
structure Fr where
 Oi:Addr→Prop
 T:List Addr
 β:List (Option Addr)
 l:List (Option Addr)
 s:S3
 h:H3
def Fr.O (F:Fr):Addr→Prop:=fun a=>a∈F.T∨some a∈F.l∨F.Oi a
def SlotR (κ:Kx) (F:Fr) (H:Hp) (i:Nat):Vl→V→Prop
 | .v x,v=>Rep κ F.β F.O H x v
 | .m c,v=> ∃a,F.l[i]? =some (some a)∧v= .ref a∧CellR κ F.β F.O H c a
structure Rel (κ:Kx) (F:Fr) (σ:St) (H:Hp):Prop where
 heap:RelH κ F.O F.β F.h H
 slen:F.s.length=σ.length
 llen:F.l.length=F.s.length
 linj: ∀(i j:Nat) a,F.l[i]? =some (some a)→F.l[j]? =some (some a)→i=j
 lt: ∀a,some a∈F.l→a∉F.T
 lo: ∀a,some a∈F.l→¬F.Oi a
 to: ∀a∈F.T,¬F.Oi a
 tn:F.T.Nodup
 slot: ∀(i:Nat) x,F.s[i]? =some (some x)→∃v,σ[i]? =some (some v)∧SlotR κ F H i x v
section
variable {κ:Kx} {β β':List (Option Addr)} {O O':Addr→Prop} {H H':Hp} {M:Addr→Prop} {c:C3} {a:Addr} {h:H3}
theorem CellR.sub (hs: ∀a,O' a→O a) (r:CellR κ β O H c a):CellR κ β O' H c a:=by
 cases c with
 | lst xs=>obtain ⟨_,q,r⟩:=r;exact ⟨_,q,r.sub hs⟩
 | dK xs=>obtain ⟨_,q,r⟩:=r;exact ⟨_,q,r.sub hs⟩
 | dT xs=>obtain ⟨_,q,r⟩:=r;exact ⟨_,q,r.sub hs⟩
 | ins c fs=>obtain ⟨_,_,_,k,q,r⟩:=r;exact ⟨_,_,_,k,q,r.sub hs⟩
 | dead=>exact r
theorem CellR.ext (e:Ext M β H β' H') (hM: ∀a,M a→O a) (hO: ∀a o,H a=some o→¬O a→¬O' a) (hb: ∀o,H a=some o→H' a=some o) (r:CellR κ β O H c a):CellR κ β' O' H' c a:=by
 cases c with
 | lst xs=>obtain ⟨_,q,r⟩:=r;exact ⟨_,hb _ q,r.ext e hM hO⟩
 | dK xs=>obtain ⟨_,q,r⟩:=r;exact ⟨_,hb _ q,r.ext e hM hO⟩
 | dT xs=>obtain ⟨_,q,r⟩:=r;exact ⟨_,hb _ q,r.ext e hM hO⟩
 | ins c fs=>obtain ⟨_,_,_,k,q,r⟩:=r;exact ⟨_,_,_,k,hb _ q,r.ext e hM hO⟩
 | dead=>exact r
theorem CellR.fz {x:V3} (hc:c.fz=some x) (hn:some a∉β) (ho: ¬O a) (r:CellR κ β O H c a):Rep κ β O H x (.ref a):=by
 cases c with
 | lst xs=>cases hc;obtain ⟨_,q,r⟩:=r;exact .lst q hn ho r
 | dK xs=>cases hc;obtain ⟨_,q,r⟩:=r;exact .dK q hn ho r
 | dT xs=>cases hc;obtain ⟨_,q,r⟩:=r;exact .dT q hn ho r
 | ins c fs=>cases hc;obtain ⟨_,_,_,k,q,r⟩:=r;exact .obj k q hn ho r
 | dead=>exact r.elim
theorem RelH.sub (hs: ∀a,O' a→O a) (r:RelH κ O β h H):RelH κ O' β h H:=
 ⟨r.len,r.inj,fun a ha=>r.off a (hs a ha),fun a ha=>r.trk a (hs a ha),r.btr,fun i c hc=>(r.cell i c hc).imp id fun ⟨a,ha,q⟩=>⟨a,ha,q.sub hs⟩⟩
end
abbrev Fr.with (F:Fr) (p:Addr):Fr:={F with T:=p::F.T}
abbrev Fr.to (F:Fr) (β:List (Option Addr)) (h:H3):Fr:={F with β:=β,h:=h}
abbrev Nw (H:Hp):Addr→Prop:=fun p=>H p=none
def Post (κ:Kx) (N:Addr→Prop) (F:Fr) (σ:St) (H:Hp):Vl→V→Prop
 | .v x,v=>Rel κ F σ H∧Rep κ F.β F.O H x v
 | .m c,v=> ∃p,v= .ref p∧Rel κ (F.with p) σ H∧CellR κ F.β (F.with p).O H c p∧N p
def XOk (κ:Kx) (E:XK) (x:X3) (H:Hp):Prop:=∀C,κ.cl x.c=some C→E (.ref C) none H
abbrev Kd (α ω:Type):=Hp→Fr→St→Hp→α→ω→Prop
def zk4 {α ω:Type} (K:Kd α ω):Prop:=∀(M:Addr→Prop) β H β1 H1 F σ H' a w,Ext M β H β1 H1→K H1 F σ H' a w→K H F σ H' a w
def Out {α ω:Type} (κ:Kx) (E:XK) (K:Kd α ω) (F:Fr) (σ:St) (H:Hp) (Q:ω→Hp→Prop):Res α→Prop
 | .ok a h'=> ∀β' w H',Ext No F.β H β' H'→K H (F.to β' h') σ H' a w→Q w H'
 | .ex x h'=> ∀β' H',Ext No F.β H β' H'→RelH κ F.Oi β' h' H'→XOk κ E x H'
 | .no=>False
def tOf {α ω:Type} (κ:Kx) (E:XK) (K:Kd α ω) (d:S3→H3→Res α) (σ:St) (H:Hp) (Q:ω→Hp→Prop):Prop:=∃F,Rel κ F σ H∧Out κ E K F σ H Q (d F.s F.h)
def kE (κ:Kx):Kd Vl V:=fun H F σ H' r v=>Post κ (Nw H) F σ H' r v
abbrev zf (κ:Kx) (E:XK) (d:E3):TE:=tOf κ E (kE κ) d
section
variable {κ:Kx} {E:XK} {F:Fr} {σ:St} {H H':Hp} {Q:VK} {p:Addr}
theorem Fr.O_with {a:Addr} (h:F.O a):(F.with p).O a:=h.imp (fun z=>List.mem_cons_of_mem _ z) id
theorem SlotR.sub {F F':Fr} {i:Nat} {x:Vl} {v:V} (hb:F'.β=F.β) (hl:F'.l=F.l) (hs: ∀a,F'.O a→F.O a) (h:SlotR κ F H i x v):SlotR κ F' H i x v:=by
 cases x with
 | v x=>show Rep κ F'.β F'.O H x v;rw [hb];exact Rep.sub hs h
 | m c=>obtain ⟨a,h1,h2,h3⟩:=h;refine ⟨a,by rw [hl];exact h1,h2,?_⟩;rw [hb];exact h3.sub hs
theorem Rel.drop (h:Rel κ (F.with p) σ H):Rel κ F σ H where
 heap:=h.heap.sub fun a ha=>Fr.O_with ha
 slen:=h.slen
 llen:=h.llen
 linj:=h.linj
 lt:=fun a ha z=>h.lt a ha (List.mem_cons_of_mem _ z)
 lo:=h.lo
 to:=fun a ha=>h.to a (List.mem_cons_of_mem _ ha)
 tn:=(List.nodup_cons.mp h.tn).2
 slot:=fun i x e=>let ⟨v,a,b⟩:=h.slot i x e;⟨v,a,SlotR.sub (F:=F.with p) (F':=F) rfl rfl (fun a ha=>Fr.O_with ha) b⟩
theorem Rel.apart (h:Rel κ (F.with p) σ H): ¬F.O p:=fun z=>by
 rcases z with z | z | z
 ·exact (List.nodup_cons.mp h.tn).1 z
 ·exact h.lt p z List.mem_cons_self
 ·exact h.to p List.mem_cons_self z
theorem Rel.offp (h:Rel κ (F.with p) σ H):some p∉F.β:=h.heap.off p (.inl List.mem_cons_self)
theorem Post.fz {N:Addr→Prop} {x:Vl} {y:V3} {v:V} (h:Post κ N F σ H x v) (e:x.fz=some y):Rel κ F σ H∧Rep κ F.β F.O H y v:=by
 cases x with
 | v x=>cases e;exact h
 | m c=>
  obtain ⟨p,rfl,r,q,_⟩:=h
  exact ⟨r.drop,(q.sub (O':=F.O) fun a ha=>Fr.O_with ha).fz e r.offp r.apart⟩
theorem Post.imp {N N':Addr→Prop} {x:Vl} {v:V} (h:Post κ N F σ H x v) (k: ∀p,N p→N' p):Post κ N' F σ H x v:=by
 cases x with
 | v x=>exact h
 | m c=>obtain ⟨p,h1,h2,h3,h4⟩:=h;exact ⟨p,h1,h2,h3,k p h4⟩
theorem Ext.nw {M:Addr→Prop} {β β':List (Option Addr)} {H0 H1:Hp} (e:Ext M β H0 β' H1): ∀p,Nw H1 p→Nw H0 p:=fun p h=>by
 cases w:H0 p with
 | none=>exact w
 | some o=>obtain ⟨o',z⟩:=e.there p o w;rw [h] at z;cases z
theorem Rel.slotExt {β':List (Option Addr)} {h':H3} (r:Rel κ F σ H) (e:Ext No F.β H β' H') {i:Nat} {x:Vl} {v:V} (q:SlotR κ F H i x v):SlotR κ (F.to β' h') H' i x v:=by
 cases x with
 | v x=>exact Rep.ext0 e q
 | m c=>
  obtain ⟨a,h1,h2,h3⟩:=q
  have ha:F.O a:= .inr (.inl (List.mem_of_getElem? h1))
  exact ⟨a,h1,h2,h3.ext e (fun _ z=>z.elim) (fun _ _ _ n=>n) fun o ho=>(e.keep a o ho (r.heap.off a ha) fun z=>z).1⟩
theorem Rel.next {β':List (Option Addr)} {h':H3} (r:Rel κ F σ H) (e:Ext No F.β H β' H') (rh:RelH κ F.O β' h' H'):Rel κ (F.to β' h') σ H' where
 heap:=rh
 slen:=r.slen
 llen:=r.llen
 linj:=r.linj
 lt:=r.lt
 lo:=r.lo
 to:=r.to
 tn:=r.tn
 slot:=fun i x hx=>let ⟨v,a,b⟩:=r.slot i x hx;⟨v,a,r.slotExt e b⟩
theorem Out.move {α ω:Type} {K:Kd α ω} {Q:ω→Hp→Prop} {r:Res α} {β':List (Option Addr)} {h':H3} (hK:zk4 K) (e:Ext No F.β H β' H') (o:Out κ E K F σ H Q r):Out κ E K (F.to β' h') σ H' Q r:=by
 cases r with
 | ok x h2=>exact fun β2 v H2 e2 p=>o β2 v H2 (e.trans0 e2) (hK _ _ _ _ _ _ _ _ _ _ e p)
 | ex x h2=>exact fun β2 H2 e2 p=>o β2 H2 (e.trans0 e2) p
 | no=>exact o
theorem zS:zk4 (kE κ):=fun M β H β1 H1 F σ H' a w e h=>Post.imp h e.nw
theorem tOf.mono {α ω:Type} {K:Kd α ω} {Q Q':ω→Hp→Prop} {d:S3→H3→Res α} (h:tOf κ E K d σ H Q) (k: ∀v H,Q v H→Q' v H):tOf κ E K d σ H Q':=by
 obtain ⟨F,rel,o⟩:=h
 refine ⟨F,rel,?_⟩
 cases q:d F.s F.h with
 | ok r h1=>rw [q] at o;exact fun β v H' e p=>k _ _ (o β v H' e p)
 | ex x h1=>rw [q] at o;exact o
 | no=>rw [q] at o;exact o
theorem zY {α ω α' ω':Type} {K:Kd α ω} {K':Kd α' ω'} {Q:ω'→Hp→Prop} {a:S3→H3→Res α} {k:α→H3→Res α'} (hK:zk4 K') (rel:Rel κ F σ H) (h:Out κ E K' F σ H Q ((a F.s F.h).bind k)):
  tOf κ E K a σ H (fun w H1=> ∃β1 h1 x,Ext No F.β H β1 H1∧K H (F.to β1 h1) σ H1 x w∧Out κ E K' (F.to β1 h1) σ H1 Q (k x h1)):=by
 refine ⟨F,rel,?_⟩
 cases q:a F.s F.h with
 | no=>rw [q] at h;exact h
 | ex x h1=>rw [q] at h;exact h
 | ok r h1=>rw [q] at h;exact fun β1 v H1 e p=>⟨β1,h1,r,e,p,Out.move hK e h⟩
theorem yY {β:List (Option Addr)} {o:HO} (hp:H p=none):Ext No β H β (zj H p o):=
 ⟨fun a u ha hn _=>⟨by rw [zR (y0 ha hp)];exact ha,hn⟩,Nat.le_refl _,fun _ _ _ h=>h,fun a u ha=>⟨u,by rw [zR (y0 ha hp)];exact ha⟩,nwb0⟩
theorem RelH.trk' {O:Addr→Prop} {β:List (Option Addr)} {h:H3} (r:RelH κ O β h H) (a:Addr) (ha:O a): ∃o,H a=some o:=let ⟨u,q,_⟩:=r.trk a ha;⟨u,q⟩
theorem RelH.btr' {O:Addr→Prop} {β:List (Option Addr)} {h:H3} (r:RelH κ O β h H) (i:Nat) (a:Addr) (e:β[i]? =some (some a)): ∃o,H a=some o:=let ⟨u,q,_⟩:=r.btr i a e;⟨u,q⟩
theorem CellR.nt {β:List (Option Addr)} {O:Addr→Prop} {c:C3} {u:HO} {l:Addr} (h:CellR κ β O (zj H l u) c l): ∀ys,u≠HO.tup ys:=by
 intro ys z
 subst z
 cases c with
 | lst xs=>obtain ⟨_,e,_⟩:=h;rw [yD] at e;cases e
 | dK xs=>obtain ⟨_,e,_⟩:=h;rw [yD] at e;cases e
 | dT xs=>obtain ⟨_,e,_⟩:=h;rw [yD] at e;cases e
 | ins c fs=>obtain ⟨_,_,_,_,e,_⟩:=h;rw [yD] at e;cases e
 | dead=>exact h
theorem RelH.off_new {O:Addr→Prop} {β:List (Option Addr)} {h:H3} (r:RelH κ O β h H) (hp:H p=none):some p∉β∧¬O p:=by
 refine ⟨fun z=>?_,fun z=>?_⟩
 ·obtain ⟨i,hi⟩:=List.getElem?_of_mem z
  obtain ⟨o,ho,_⟩:=r.btr i p hi
  rw [hp] at ho;cases ho
 ·obtain ⟨o,ho,_⟩:=r.trk p z
  rw [hp] at ho;cases ho
theorem RelH.laid {O:Addr→Prop} {β:List (Option Addr)} {h:H3} {o:HO} (r:RelH κ O β h H) (hp:H p=none):RelH κ O β h (zj H p o):=by
 have k: ∀a u,H a=some u→zj H p o a=some u:=fun a u ha=>by rw [zR (y0 ha hp)];exact ha
 exact ⟨r.len,r.inj,r.off,fun a ha=>let ⟨u,q,n⟩:=r.trk a ha;⟨u,k a u q,n⟩,fun i a e=>let ⟨u,q,n⟩:=r.btr i a e;⟨u,k a u q,n⟩,
  fun i c hc=>(r.cell i c hc).imp id fun ⟨a,ha,q⟩=>⟨a,ha,q.ext (yY hp) (fun _ z=>z.elim) (fun _ _ _ n=>n) fun u hu=>k a u hu⟩⟩
theorem Rel.laid {o:HO} (r:Rel κ F σ H) (hp:H p=none):Rel κ F σ (zj H p o):=r.next (yY hp) (r.heap.laid hp)
theorem O_ne {a:Addr} (h:(F.with p).O a) (hne:a≠p):F.O a:=by
 rcases h with h | h
 ·rcases List.mem_cons.mp h with h | h
  ·exact absurd h hne
  ·exact .inl h
 ·exact .inr h
theorem Rel.new {o:HO} (r:Rel κ F σ H) (hp:H p=none) (ho: ∀ys,o≠HO.tup ys:=by intro _ z;cases z):Rel κ (F.with p) σ (zj H p o)∧∀{x:V3} {y:V},Rep κ F.β F.O H x y→Rep κ F.β (F.with p).O (zj H p o) x y:=by
 obtain ⟨n1,n2⟩:=r.heap.off_new hp
 have e:Ext No F.β H F.β (zj H p o):=yY hp
 have hM: ∀a,No a→F.O a:=fun _ z=>z.elim
 have hO: ∀a u,H a=some u→¬F.O a→¬(F.with p).O a:=fun a u ha n z=>n (O_ne z (y0 ha hp))
 have k: ∀a u,H a=some u→zj H p o a=some u:=fun a u ha=>by rw [zR (y0 ha hp)];exact ha
 refine ⟨⟨⟨r.heap.len,r.heap.inj,fun a ha=>?_,fun a ha=>?_,fun i a q=>let ⟨u,z,n⟩:=r.heap.btr i a q;⟨u,k a u z,n⟩,fun i c hc=>(r.heap.cell i c hc).imp id fun ⟨a,ha,q⟩=>⟨a,ha,q.ext e hM hO fun u hu=>k a u hu⟩⟩,
  r.slen,r.llen,r.linj,?_,r.lo,?_,List.nodup_cons.mpr ⟨fun z=>n2 (.inl z),r.tn⟩,fun i x q=>?_⟩,fun h=>h.ext e hM hO⟩
 ·by_cases z:a=p
  ·subst z;exact n1
  ·exact r.heap.off a (O_ne ha z)
 ·by_cases z:a=p
  ·subst z;exact ⟨o,yD,ho⟩
  ·obtain ⟨u,q,n⟩:=r.heap.trk a (O_ne ha z);exact ⟨u,k a u q,n⟩
 ·intro a ha z
  rcases List.mem_cons.mp z with z | z
  ·subst z;exact n2 (.inr (.inl ha))
  ·exact r.lt a ha z
 ·intro a ha z
  rcases List.mem_cons.mp ha with h | h
  ·subst h;exact n2 (.inr (.inr z))
  ·exact r.to a h z
 ·obtain ⟨v,h1,h2⟩:=r.slot i x q
  refine ⟨v,h1,?_⟩
  cases x with
  | v x=>exact Rep.ext e hM hO h2
  | m c=>
   obtain ⟨a,a1,a2,a3⟩:=h2
   exact ⟨a,a1,a2,a3.ext e hM hO fun u hu=>k a u hu⟩
theorem Out.val {x:V3} {v:V} (o:Out κ E (kE κ) F σ H Q (.ok (.v x) F.h)) (rel:Rel κ F σ H) (r:Rep κ F.β F.O H x v):Q v H:=o F.β v H Ext.refl ⟨rel,r⟩
inductive Rf where
 | x (v:V3) | s (i:Nat)
abbrev P3:=S3→H3→Res Rf
noncomputable def pV (i:Nat):P3:=fun s h=>match s[i]? with
 | some (some (.v x))=> .ok (.x x) h
 | some (some (.m _))=> .ok (.s i) h
 | _=> .no
def pE (e:E3):P3:=fun s h=>(e s h).bind fun r h1=>match r.fz with
 | some x=> .ok (.x x) h1
 | none=> .no
def RfR (κ:Kx) (F:Fr) (H:Hp):Rf→V→Prop
 | .x y,v=>Rep κ F.β F.O H y v
 | .s i,v=> ∃a c,F.l[i]? =some (some a)∧v= .ref a∧F.s[i]? =some (some (.m c))∧CellR κ F.β F.O H c a
def kP (κ:Kx):Kd Rf V:=fun _ F σ H' f v=>Rel κ F σ H'∧RfR κ F H' f v
abbrev zl (κ:Kx) (E:XK) (d:P3):TE:=tOf κ E (kP κ) d
theorem km_P:zk4 (kP κ):=fun _ _ _ _ _ _ _ _ _ _ _ h=>h
theorem RfR.ext {β':List (Option Addr)} {h':H3} {f:Rf} {v:V} (rel:Rel κ F σ H) (e:Ext No F.β H β' H') (r:RfR κ F H f v):RfR κ (F.to β' h') H' f v:=by
 cases f with
 | x y=>exact Rep.ext0 e r
 | s i=>
  obtain ⟨a,c,h1,h2,h3,h4⟩:=r
  have ha:F.O a:= .inr (.inl (List.mem_of_getElem? h1))
  exact ⟨a,c,h1,h2,h3,h4.ext e (fun _ z=>z.elim) (fun _ _ _ n=>n) fun o ho=>(e.keep a o ho (rel.heap.off a ha) fun z=>z).1⟩
noncomputable def rdl (s:S3) (h:H3):Rf→Option (List V3)
 | .x (.lst xs)=>some xs
 | .x (.scr ns)=>some (ns.map .int)
 | .x (.loc n)=>match h[n]? with
  | some (.lst xs)=>some xs
  | _=>none
 | .s i=>match s[i]? with
  | some (some (.m (.lst xs)))=>some xs
  | _=>none
 | _=>none
theorem zfn {f:Rf} {v:V} {xs:List V3} (rel:Rel κ F σ H) (r:RfR κ F H f v) (e:rdl F.s F.h f=some xs): ∃a ys,v= .ref a∧SqL κ.K H a ys∧Reps κ F.β F.O H xs ys:=by
 cases f with
 | s i=>
  obtain ⟨a,c,h1,h2,h3,h4⟩:=r
  simp only [rdl,h3] at e
  cases c <;> simp at e
  subst e
  obtain ⟨ys,h5,h6⟩:=h4
  exact ⟨a,ys,h2,.of h5,h6⟩
 | x y=>
  cases y <;> simp [rdl] at e
  case lst zs=>
   subst e
   cases r with
   | lst h1 h2 h3 h4=>exact ⟨_,_,rfl,.of h1,h4⟩
  case scr ns=>
   subst e
   have g: ∀l:List Int,Reps κ F.β F.O H (l.map V3.int) (l.map V.int):=fun l=>by
    induction l with
    | nil=>exact .nil
    | cons x r ih=>exact .cons (.int x) ih
   cases r with
   | scr h1 h2 h3=>exact ⟨_,_,rfl,.inl (.inr ⟨_,h1⟩),g ns⟩
   | scrK h=>exact ⟨_,_,rfl,.inr h,g ns⟩
  case loc n=>
   cases r with
   | loc h1 h2=>
    cases q:F.h[n]? with
    | none=>rw [q] at e;cases e
    | some c=>
     rw [q] at e
     cases c <;> simp at e
     subst e
     rcases rel.heap.cell n _ q with z | ⟨a,ha,ys,h5,h6⟩
     ·cases z
     ·exact ⟨a,ys,h2 a ha,.of h5,h6⟩
end
abbrev A3:=S3→H3→Res (List Rf)
def aNil:A3:=fun _ h=> .ok [] h
def aCons (p:P3) (a:A3):A3:=fun s h=>(p s h).bind fun f h1=>(a s h1).bind fun fs h2=> .ok (f::fs) h2
def kA (κ:Kx):Kd (List Rf) (List V):=fun _ F σ H' fs vs=>Rel κ F σ H'∧Paired (RfR κ F H') fs vs
abbrev zV (κ:Kx) (E:XK) (d:A3):TA:=tOf κ E (kA κ) d
noncomputable def vals3:List Rf→Option (List V3)
 | []=>some []
 | .x v::r=>(vals3 r).map (v:: ·)
 | .s _::_=>none
abbrev T3:=S3→H3→Res Bool
def kT (κ:Kx):Kd Bool Bool:=fun _ F σ H' b b'=>b'=b∧Rel κ F σ H'
abbrev zL (κ:Kx) (E:XK) (d:T3):TT:=tOf κ E (kT κ) d
section
variable {X:Cx} {κ:Kx} {E:XK} {F:Fr} {σ:St} {H H':Hp} {Q:VK} {p:Addr} {e a b:Expr} {pos:Pos} {i:Nat}
theorem km_A:zk4 (kA κ):=fun _ _ _ _ _ _ _ _ _ _ _ h=>h
theorem km_T:zk4 (kT κ):=fun _ _ _ _ _ _ _ _ _ _ _ h=>h
theorem yv {t t':TE} (h:PE X e t) (w: ∀σ H Q,t' σ H Q→t σ H Q):PE X e t':=fun pins s σ H Q I q=>h pins s σ H Q I (w σ H Q q)
theorem PTw {t t':TT} (h:PT X e t) (w: ∀σ H Q,t' σ H Q→t σ H Q):PT X e t':=fun pins s σ H Q I q=>h pins s σ H Q I (w σ H Q q)
theorem PWw {t t':TT} (h:PW X e t) (w: ∀σ H Q,t' σ H Q→t σ H Q):PW X e t':=fun wh pins s σ H Q I q=>h wh pins s σ H Q I (w σ H Q q)
theorem PAw {es:List Expr} {t t':TA} (h:PA X es t) (w: ∀σ H Q,t' σ H Q→t σ H Q):PA X es t':=fun pos pins s σ H Q I q=>h pos pins s σ H Q I (w σ H Q q)
noncomputable def eV (i:Nat):E3:=fun s h=>match s[i]? with
 | some (some (.v x))=> .ok (.v x) h
 | _=> .no
def eC (x:V3):E3:=fun _ h=> .ok (.v x) h
theorem r_v (hv:PE X e (tVar i)):PE X e (zf κ E (eV i)):=yv hv fun σ H Q ⟨F,rel,o⟩=>by
 unfold eV at o
 cases q:F.s[i]? with
 | none=>rw [q] at o;exact o.elim
 | some z=>
  rw [q] at o
  match z,q,o with
  | none,q,o=>exact o.elim
  | some (.m c),q,o=>exact o.elim
  | some (.v x),q,o=>
   obtain ⟨v,h1,h2⟩:=rel.slot i _ q
   exact ⟨v,h1,o.val rel h2⟩
theorem zb (hv:PE X e (tVar i)):PE X e (zl κ E (pV i)):=yv hv fun σ H Q ⟨F,rel,o⟩=>by
 unfold pV at o
 cases q:F.s[i]? with
 | none=>rw [q] at o;exact o.elim
 | some z=>
  rw [q] at o
  match z,q,o with
  | none,q,o=>exact o.elim
  | some (.m c),q,o=>
   obtain ⟨v,h1,a,h2,h3,h4⟩:=rel.slot i _ q
   exact ⟨v,h1,o F.β v H Ext.refl ⟨rel,a,c,h2,h3,q,h4⟩⟩
  | some (.v x),q,o=>
   obtain ⟨v,h1,h2⟩:=rel.slot i _ q
   exact ⟨v,h1,o F.β v H Ext.refl ⟨rel,h2⟩⟩
theorem za {d:E3} (h:PE X e (zf κ E d)):PE X e (zl κ E (pE d)):=yv h fun σ H Q ⟨F,rel,o⟩=>
 (zY (K:=kE κ) km_P rel o).mono fun v H1 ⟨β1,h1,x,e1,p1,o1⟩=>by
  cases z:x.fz with
  | none=>simp only [z] at o1;exact o1.elim
  | some y=>
   simp only [z] at o1
   obtain ⟨r1,r2⟩:=Post.fz p1 z
   exact o1 β1 v H1 Ext.refl ⟨r1,r2⟩
theorem qO {x:V3} {v:V} (hc:PE X e (tC v)) (r: ∀β O H,Rep κ β O H x v):PE X e (zf κ E (eC x)):=yv hc fun σ H Q ⟨F,rel,o⟩=>o.val rel (r _ _ _)
theorem zh {i j pos}:PE X (.Constant (.int i) j pos) (zf κ E (eC (.int i))):=qO zyt fun _ _ _=> .int i
theorem r_bl {b j pos}:PE X (.Constant (.bool b) j pos) (zf κ E (eC (.bl b))):=qO zz2 fun _ _ _=> .bl b
theorem zu4 {j pos}:PE X (.Constant .none j pos) (zf κ E (eC .non)):=qO zy1 fun _ _ _=> .non
theorem ziv {x j pos}:PE X (.Constant (.str x) j pos) (zf κ E (eC (.str x))):=qO zxx fun _ _ _=> .str x
theorem zg:PA X [] (zV κ E aNil):=PAw zwj fun σ H Q ⟨F,rel,o⟩=>o F.β [] H Ext.refl ⟨rel,.nil⟩
theorem zd {es:List Expr} {d:P3} {t:A3} (ha:PE X e (zl κ E d)) (hr:PA X es (zV κ E t)) (hs:starEach (e::es) X.env=(false,eval e X.env)::starEach es X.env:=by rfl):PA X (e::es) (zV κ E (aCons d t)):=
 PAw (zus ha hr hs) fun σ H Q ⟨F,rel,o⟩=>
  (zY (K:=kP κ) km_A rel o).mono fun v H1 ⟨β1,h1,x,e1,⟨r1,rf1⟩,o1⟩=>
   (zY (F:=F.to β1 h1) (K:=kA κ) km_A r1 o1).mono fun vs H2 ⟨β2,h2,fs,e2,⟨r2,rf2⟩,o2⟩=>o2 β2 (v::vs) H2 Ext.refl ⟨r2,.cons (RfR.ext (F:=F.to β1 h1) (β':=β2) (h':=h2) r1 e2 rf1) rf2⟩
theorem zdm: ∀{fs:List Rf} {vs:List V} {xs:List V3},Paired (RfR κ F H) fs vs→vals3 fs=some xs→Reps κ F.β F.O H xs vs
 | _,_,_,.nil,e=>by cases e;exact .nil
 | f::fs,v::vs,xs,.cons q t,e=>by
  cases f with
  | s i=>cases e
  | x y=>
   unfold vals3 at e
   cases z:vals3 fs with
   | none=>rw [z] at e;cases e
   | some l=>rw [z] at e;cases e;exact .cons q (zdm t z)
abbrev F2:=S3→H3→Rf→Rf→Option Vl
def opt (h:H3):Option Vl→Res Vl
 | some z=> .ok z h
 | none=> .no
def eOp (f:F2) (a b:P3):E3:=fun s h=>(a s h).bind fun x h1=>(b s h1).bind fun y h2=>opt h2 (f s h2 x y)
def OpSim (κ:Kx) (r:R2) (f:F2):Prop:=∀(F:Fr) (σ:St) (H:Hp) (x y:Rf) (z:Vl) (v w:V) (Q:VK),Rel κ F σ H→RfR κ F H x v→RfR κ F H y w→f F.s F.h x y=some z→
 (∀u H',Ext No F.β H F.β H'→Post κ (Nw H) F σ H' z u→Q u H')→r v w H Q
theorem Out.opt {o:Option Vl} {h:H3} (h0:F.h=h) (q:Out κ E (kE κ) F σ H Q (opt h o)): ∃z,o=some z∧∀u H',Ext No F.β H F.β H'→Post κ (Nw H) F σ H' z u→Q u H':=by
 cases o with
 | none=>exact q.elim
 | some z=>subst h0;exact ⟨z,rfl,fun u H' e p=>q F.β u H' e p⟩
theorem zos {r:R2} {f:F2} {a b:P3} (hs:OpSim κ r f) (h:zf κ E (eOp f a b) σ H Q):tOp r (zl κ E a) (zl κ E b) σ H Q:=by
 obtain ⟨F,rel,o⟩:=h
 refine (zY (K:=kP κ) zS rel o).mono fun v H1 ⟨β1,h1,f1,e1,⟨r1,rf1⟩,o1⟩=>?_
 refine (zY (F:=F.to β1 h1) (K:=kP κ) zS r1 o1).mono fun w H2 ⟨β2,h2,f2,e2,⟨r2,rf2⟩,o2⟩=>?_
 obtain ⟨z,q,k⟩:=Out.opt (F:=F.to β2 h2) rfl o2
 exact hs (F.to β2 h2) σ H2 f1 f2 z v w Q r2 (RfR.ext (F:=F.to β1 h1) (β':=β2) (h':=h2) r1 e2 rf1) rf2 q k
theorem zu {op:Operator} {r:R2} {f:F2} {da db:P3} (hs:OpSim κ r f) (ho:OpR X (binaryOp op) r) (ha:PE X a (zl κ E da)) (hb:PE X b (zl κ E db)):PE X (.BinOp a op b pos) (zf κ E (eOp f da db)):=yv (zzc ho ha hb) fun _ _ _ h=>zos hs h
theorem ztv {op:CmpOp} {r:R2} {f:F2} {da db:P3} (hs:OpSim κ r f) (ho:OpR X (compareOp op) r) (hm:behindInMarks op b=false) (ha:PE X a (zl κ E da)) (hb:PE X b (zl κ E db)):PE X (.Compare a [op] [b] pos) (zf κ E (eOp f da db)):=yv (zuq ho ha hb hm) fun _ _ _ h=>zos hs h
theorem zk {r:R2} {f:F2} {da db:P3} (hs:OpSim κ r f) (ho:IxR X r) (hm:zo7 b) (ha:PE X a (zl κ E da)) (hb:PE X b (zl κ E db)):PE X (.Subscript a b pos) (zf κ E (eOp f da db)):=yv (zz5 ho ha hb hm) fun _ _ _ h=>zos hs h
abbrev FB:=S3→H3→List Rf→Option Vl
def eB (f:FB) (a:A3):E3:=fun s h=>(a s h).bind fun fs h1=>opt h1 (f s h1 fs)
def qP (κ:Kx) (r:List V→Hp→VK→Prop) (f:FB):Prop:=∀(F:Fr) (σ:St) (H:Hp) (fs:List Rf) (z:Vl) (vs:List V) (Q:VK),Rel κ F σ H→Paired (RfR κ F H) fs vs→f F.s F.h fs=some z→
 (∀u H',Ext No F.β H F.β H'→Post κ (Nw H) F σ H' z u→Q u H')→r vs H Q
theorem te_b {r:List V→Hp→VK→Prop} {f:FB} {a:A3} (hs:qP κ r f) (h:zf κ E (eB f a) σ H Q):tCB r (zV κ E a) σ H Q:=by
 obtain ⟨F,rel,o⟩:=h
 refine (zY (K:=kA κ) zS rel o).mono fun vs H1 ⟨β1,h1,fs,e1,⟨r1,rf1⟩,o1⟩=>?_
 obtain ⟨z,q,k⟩:=Out.opt (F:=F.to β1 h1) rfl o1
 exact hs (F.to β1 h1) σ H1 fs z vs Q r1 rf1 q k
theorem zx7 {a:Addr} {u:HO} (hp:H p=none) (ha:H a=some u) (n: ¬F.O a): ¬(F.with p).O a:=fun z=>n (O_ne z (y0 ha hp))
theorem Post.lst {xs:List V3} {ys:List V} (rel:Rel κ F σ H) (hp:H p=none) (r:Reps κ F.β F.O H xs ys):Post κ (Nw H) F σ (zj H p (.lst ys)) (.m (.lst xs)) (.ref p):=by
 obtain ⟨r1,r2⟩:=rel.new (o:= .lst ys) hp
 exact ⟨p,rfl,r1,⟨ys,yD,r.ext (yY hp) (fun _ z=>z.elim) fun a u ha n=>zx7 hp ha n⟩,hp⟩
theorem Post.dT {xs:List (MK×V3)} {ys:List (MK×V)} (rel:Rel κ F σ H) (hp:H p=none) (r:RepP κ F.β F.O H xs ys):Post κ (Nw H) F σ (zj H p (.dT ys)) (.m (.dT xs)) (.ref p):=by
 obtain ⟨r1,r2⟩:=rel.new (o:= .dT ys) hp
 exact ⟨p,rfl,r1,⟨ys,yD,r.ext (yY hp) (fun _ z=>z.elim) fun a u ha n=>zx7 hp ha n⟩,hp⟩
theorem Post.tup {xs:List V3} {ys:List V} {N:Addr→Prop} (rel:Rel κ F σ H) (hp:H p=none) (r:Reps κ F.β F.O H xs ys):Post κ N F σ (zj H p (.tup ys)) (.v (.tup xs)) (.ref p):=by
 obtain ⟨n1,n2⟩:=rel.heap.off_new hp
 exact ⟨rel.laid hp,.tup yD n1 n2 (r.ext0 (yY hp))⟩
def eTup (a:A3):E3:=fun s h=>(a s h).bind fun fs h1=>match vals3 fs with
 | some xs=>if xs.length≤sizeLine then .ok (.v (.tup xs)) h1 else .no
 | none=> .no
def eLst (a:A3):E3:=fun s h=>(a s h).bind fun fs h1=>match vals3 fs with
 | some xs=>if xs.length≤sizeLine then .ok (.m (.lst xs)) h1 else .no
 | none=> .no
theorem qe {es:List Expr} {x1} {t:A3} (h:PA X es (zV κ E t)):PE X (.Tuple es x1 pos) (zf κ E (eTup t)):=yv (zwc h) fun σ H Q ⟨F,rel,o⟩=>
 (zY (K:=kA κ) zS rel o).mono fun vs H1 ⟨β1,h1,fs,e1,⟨r1,rf1⟩,o1⟩=>by
  cases q:vals3 fs with
  | none=>simp only [q] at o1;exact o1.elim
  | some xs=>
   simp only [q] at o1
   have hr:=zdm rf1 q
   by_cases hz:xs.length≤sizeLine
   ·rw [if_pos hz] at o1
    exact ⟨by rw [←hr.length];exact hz,fun p hp=>o1 β1 (.ref p) _ (yY hp) (Post.tup r1 hp hr)⟩
   ·rw [if_neg hz] at o1;exact o1.elim
theorem qA {es:List Expr} {t:A3} (h:PA X es (zV κ E t)):PE X (.List es pos) (zf κ E (eLst t)):=yv (zwg h) fun σ H Q ⟨F,rel,o⟩=>
 (zY (K:=kA κ) zS rel o).mono fun vs H1 ⟨β1,h1,fs,e1,⟨r1,rf1⟩,o1⟩=>by
  cases q:vals3 fs with
  | none=>simp only [q] at o1;exact o1.elim
  | some xs=>
   simp only [q] at o1
   have hr:=zdm rf1 q
   by_cases hz:xs.length≤sizeLine
   ·rw [if_pos hz] at o1
    exact ⟨by rw [←hr.length];exact hz,fun p hp=>o1 β1 (.ref p) _ (yY hp) (Post.lst r1 hp hr)⟩
   ·rw [if_neg hz] at o1;exact o1.elim
def tE (e:E3):T3:=fun s h=>(e s h).bind fun r h1=>match r with
 | .v (.bl b)=> .ok b h1
 | _=> .no
theorem zn0 {d:E3} {Q:Bool→Hp→Prop} (h:zL κ E (tE d) σ H Q):zf κ E d σ H (fun x H'=> ∃k,x= .bl k∧Q k H'):=by
 obtain ⟨F,rel,o⟩:=h
 refine (zY (K:=kE κ) km_T rel o).mono fun v H1 ⟨β1,h1,x,e1,p1,o1⟩=>?_
 match x,p1,o1 with
 | .v (.bl b),p1,o1=>
  obtain ⟨r1,r2⟩:=p1
  cases r2
  exact ⟨b,rfl,o1 β1 b H1 Ext.refl ⟨rfl,r1⟩⟩
theorem yF {op:CmpOp} {r:R2} {f:F2} {da db:P3} (hs:OpSim κ r f) (ho:OpR X (compareOp op) r) (hm:behindInMarks op b=false) (ha:PE X a (zl κ E da)) (hb:PE X b (zl κ E db)):PT X (.Compare a [op] [b] pos) (zL κ E (tE (eOp f da db))):=PTw (zvc ho ha hb hm) fun _ _ _ h=>zos hs (zn0 h)
theorem zha {d:E3} (h:PE X e (zf κ E d)) (he: ∀whole,isTrue e X.env whole=(do let v ←whole;standAt e.pos;holding [v] (truthy v)):=by intro _;rfl):PT X e (zL κ E (tE d)):=PTw (zwu h he) fun _ _ _ q=>zn0 q
def tAnd3 (a b:T3):T3:=fun s h=>(a s h).bind fun c h1=>if c=true then b s h1 else .ok false h1
def tOr3 (a b:T3):T3:=fun s h=>(a s h).bind fun c h1=>if c=true then .ok true h1 else b s h1
def tNot3 (a:T3):T3:=fun s h=>(a s h).bind fun c h1=> .ok (!c) h1
theorem zk3 {t:T3} (ha:PT X a (zL κ E t)):PW X (.BoolOp .And [a] pos) (zL κ E t):=zt4 ha
theorem zhf {t:T3} (ha:PT X a (zL κ E t)):PW X (.BoolOp .Or [a] pos) (zL κ E t):=zw7 ha
theorem zn8 {t u:T3} {rest:List Expr} (ha:PT X a (zL κ E t)) (hb:PW X (.BoolOp .And (b::rest) pos) (zL κ E u)):PW X (.BoolOp .And (a::b::rest) pos) (zL κ E (tAnd3 t u)):=PWw (zv1 ha hb) fun σ H Q ⟨F,rel,o⟩=>
 (zY (K:=kT κ) km_T rel o).mono fun c H1 ⟨β1,h1,x,e1,⟨ec,r1⟩,o1⟩=>by
  subst ec
  cases c with
  | true=>rw [if_pos rfl] at o1 ⊢;exact ⟨F.to β1 h1,r1,o1⟩
  | false=>rw [if_neg Bool.false_ne_true] at o1 ⊢;exact o1 β1 false H1 Ext.refl ⟨rfl,r1⟩
theorem zkw {t u:T3} {rest:List Expr} (ha:PT X a (zL κ E t)) (hb:PW X (.BoolOp .Or (b::rest) pos) (zL κ E u)):PW X (.BoolOp .Or (a::b::rest) pos) (zL κ E (tOr3 t u)):=PWw (zz4 ha hb) fun σ H Q ⟨F,rel,o⟩=>
 (zY (K:=kT κ) km_T rel o).mono fun c H1 ⟨β1,h1,x,e1,⟨ec,r1⟩,o1⟩=>by
  subst ec
  cases c with
  | true=>rw [if_pos rfl] at o1 ⊢;exact o1 β1 true H1 Ext.refl ⟨rfl,r1⟩
  | false=>rw [if_neg Bool.false_ne_true] at o1 ⊢;exact ⟨F.to β1 h1,r1,o1⟩
theorem ze0 {t:T3} (ha:PT X a (zL κ E t)):PT X (.UnaryOp .Not a pos) (zL κ E (tNot3 t)):=PTw (zw0 ha) fun σ H Q ⟨F,rel,o⟩=>
 (zY (K:=kT κ) km_T rel o).mono fun c H1 ⟨β1,h1,x,e1,⟨ec,r1⟩,o1⟩=>by
  subst ec
  exact o1 β1 _ H1 Ext.refl ⟨rfl,r1⟩
def eAnd (a b:E3):E3:=fun s h=>(tE a s h).bind fun c h1=>if c=true then b s h1 else .ok (.v (.bl false)) h1
def eOr (a b:E3):E3:=fun s h=>(tE a s h).bind fun c h1=>if c=true then .ok (.v (.bl true)) h1 else b s h1
def eNot (a:E3):E3:=fun s h=>(tE a s h).bind fun c h1=> .ok (.v (.bl !c)) h1
theorem zuy {d u:E3} {rest:List Expr} (ha:PE X a (zf κ E d)) (hb:PE X (.BoolOp .And (b::rest) pos) (zf κ E u)):PE X (.BoolOp .And (a::b::rest) pos) (zf κ E (eAnd d u)):=yv (zxo ha hb) fun σ H Q ⟨F,rel,o⟩=>by
 refine tOf.mono (zn0 (zY (a:=tE d) (K:=kT κ) zS rel o)) fun x H1 ⟨k,ex,β1,h1,c,e1,⟨ec,r1⟩,o1⟩=>⟨k,ex,?_⟩
 subst ec
 cases k with
 | true=>rw [if_pos rfl] at o1 ⊢;exact ⟨F.to β1 h1,r1,o1⟩
 | false=>rw [if_neg Bool.false_ne_true] at o1 ⊢;exact o1 β1 _ H1 Ext.refl ⟨r1,.bl false⟩
theorem z0f {d:E3} (ha:PE X a (zf κ E d)):PE X (.UnaryOp .Not a pos) (zf κ E (eNot d)):=yv (zyo ha) fun σ H Q ⟨F,rel,o⟩=>by
 refine tOf.mono (zn0 (zY (a:=tE d) (K:=kT κ) zS rel o)) fun x H1 ⟨k,ex,β1,h1,c,e1,⟨ec,r1⟩,o1⟩=>⟨k,ex,?_⟩
 subst ec
 exact o1 β1 _ H1 Ext.refl ⟨r1,.bl _⟩
theorem ztn {op} {d:E3} (h:PE X a (zf κ E d)):PE X (.BoolOp op [a] pos) (zf κ E d):=zxi h
def eIf (t:T3) (a b:E3):E3:=fun s h=>(t s h).bind fun c h1=>if c=true then a s h1 else b s h1
end
inductive O3 where
 | nx (s:S3) (h:H3) | rt (r:Vl) (h:H3) | bk (s:S3) (h:H3) | ct (s:S3) (h:H3) | ex (x:X3) (h:H3) | no
abbrev D3:=S3→H3→O3
structure SExt (F:Fr) (H:Hp) (F':Fr) (H':Hp):Prop where
 ext:Ext (fun a=>some a∈F.l) F.β H F'.β H'
 lam: ∀a,some a∈F'.l→some a∈F.l∨H a=none
 oi:F'.Oi=F.Oi
 tt:F'.T=[]
abbrev NwS (F:Fr) (H:Hp):Addr→Prop:=fun p=>some p∈F.l∨H p=none
def SOut (κ:Kx) (E:XK) (F:Fr) (H:Hp) (D:Ends):O3→Prop
 | .nx s' h'=> ∀F' σ' H',SExt F H F' H'→F'.s=s'→F'.h=h'→Rel κ F' σ' H'→D.nx σ' H'
 | .bk s' h'=> ∀F' σ' H',SExt F H F' H'→F'.s=s'→F'.h=h'→Rel κ F' σ' H'→D.bk σ' H'
 | .ct s' h'=> ∀F' σ' H',SExt F H F' H'→F'.s=s'→F'.h=h'→Rel κ F' σ' H'→D.ct σ' H'
 | .rt r h'=> ∀F' σ' v H',SExt F H F' H'→F'.h=h'→Post κ (NwS F H) F' σ' H' r v→D.rt v H'
 | .ex x h'=> ∀F' H',SExt F H F' H'→RelH κ F'.Oi F'.β h' H'→XOk κ E x H'
 | .no=>False
def zx (κ:Kx) (E:XK) (d:D3):TS:=fun D σ H=> ∃F,Rel κ F σ H∧F.T=[]∧SOut κ E F H D (d F.s F.h)
section
variable {X:Cx} {κ:Kx} {E:XK} {F F1 F2:Fr} {σ σ':St} {H H1 H2 H':Hp} {Q:VK} {r:R} {p:Addr} {e a b:Expr} {pos:Pos} {i:Nat} {D:Ends}
theorem SExt.refl (ht:F.T=[]):SExt F H F H:=⟨Ext.refl,fun _ h=> .inl h,rfl,ht⟩
theorem SExt.trans (a:SExt F H F1 H1) (b:SExt F1 H1 F2 H2):SExt F H F2 H2 where
 ext:=⟨fun x o h n m=>(by
   obtain ⟨h1,n1⟩:=a.ext.keep x o h n m
   refine b.ext.keep x o h1 n1 fun z=>?_
   rcases a.lam x z with q | q
   ·exact m q
   ·rw [h] at q;cases q),Nat.le_trans a.ext.len b.ext.len,fun i x hi h=>a.ext.bet i x hi (b.ext.bet i x (Nat.lt_of_lt_of_le hi a.ext.len) h),fun x o h=>let ⟨o1,h1⟩:=a.ext.there x o h;b.ext.there x o1 h1,zju a.ext.there (fun i x hi h=>b.ext.bet i x hi h) a.ext.nwb b.ext.nwb⟩
 lam:=fun x h=>by
  rcases b.lam x h with q | q
  ·exact a.lam x q
  ·cases w:H x with
   | none=>exact .inr rfl
   | some o=>
    obtain ⟨o',z⟩:=a.ext.there x o w
    rw [q] at z;cases z
 oi:=b.oi.trans a.oi
 tt:=b.tt
theorem SExt.of0 {β':List (Option Addr)} {h':H3} (ht:F.T=[]) (e:Ext No F.β H β' H'):SExt F H (F.to β' h') H':=
 ⟨⟨fun x o h n _=>e.keep x o h n fun z=>z,e.len,e.bet,e.there,e.nwb⟩,fun _ h=> .inl h,rfl,ht⟩
theorem SOut.move {o:O3} (e:SExt F H F1 H1) (h:SOut κ E F H D o):SOut κ E F1 H1 D o:=by
 cases o with
 | nx s h'=>exact fun F2 σ2 H2 e2=>h F2 σ2 H2 (e.trans e2)
 | bk s h'=>exact fun F2 σ2 H2 e2=>h F2 σ2 H2 (e.trans e2)
 | ct s h'=>exact fun F2 σ2 H2 e2=>h F2 σ2 H2 (e.trans e2)
 | rt r h'=>exact fun F2 σ2 v H2 e2 eh q=>h F2 σ2 v H2 (e.trans e2) eh (q.imp fun p hp=>hp.elim (e.lam p) fun z=> .inr (e.ext.nw p z))
 | ex x h'=>exact fun F2 H2 e2=>h F2 H2 (e.trans e2)
 | no=>exact h
theorem qp {st:Stmt} {t t':TS} (h:PS X st t) (w: ∀D σ H,t' D σ H→t D σ H):PS X st t':=fun pins s σ H D I q=>h pins s σ H D I (w D σ H q)
theorem PSsw {st:List Stmt} {t t':TS} (h:yR X st t) (w: ∀D σ H,t' D σ H→t D σ H):yR X st t':=fun pins s σ H D I q=>h pins s σ H D I (w D σ H q)
def sSkip:D3:=fun s h=> .nx s h
def sSeq (a b:D3):D3:=fun s h=>match a s h with
 | .nx s1 h1=>b s1 h1
 | o=>o
theorem yQ:yR X [] (zx κ E sSkip):=PSsw zt5 fun D σ H ⟨F,rel,ht,o⟩=>o F σ H (.refl ht) rfl rfl rel
theorem zp {st:Stmt} {rest:List Stmt} {da db:D3} (h1:PS X st (zx κ E da)) (h2:yR X rest (zx κ E db)):yR X (st::rest) (zx κ E (sSeq da db)):=PSsw (zr4 h1 h2) fun D σ H ⟨F,rel,ht,o⟩=>by
 refine ⟨F,rel,ht,?_⟩
 unfold sSeq at o
 cases q:da F.s F.h with
 | nx s1 h1=>
  rw [q] at o
  intro F' σ' H' e es eh r'
  refine ⟨F',r',e.tt,?_⟩
  rw [es,eh]
  exact SOut.move e o
 | rt r h=>rw [q] at o;exact o
 | bk s h=>rw [q] at o;exact o
 | ct s h=>rw [q] at o;exact o
 | ex x h=>rw [q] at o;exact o
 | no=>rw [q] at o;exact o
theorem zA {st:Stmt} {da:D3} (h1:PS X st (zx κ E da)):yR X [st] (zx κ E da):=ztj h1
theorem qX {α:Type} {l:List α} {i j:Nat} {x y:α} (h:(l.set i x)[j]? =some y):(i=j∧y=x)∨(i≠j∧l[j]? =some y):=by
 rw [List.getElem?_set] at h
 by_cases e:i=j
 ·rw [if_pos e] at h
  by_cases e2:i < l.length
  ·rw [if_pos e2] at h;exact .inl ⟨e,(Option.some.inj h).symm⟩
  ·rw [if_neg e2] at h;cases h
 ·rw [if_neg e] at h;exact .inr ⟨e,h⟩
theorem qY {l:List (Option Addr)} {i:Nat} {x:Option Addr} {a:Addr} (h:some a∈l.set i x):(x=some a)∨(some a∈l∧∃j,j≠i∧l[j]? =some (some a)):=by
 obtain ⟨j,hj⟩:=List.getElem?_of_mem h
 rcases qX hj with ⟨_,e⟩ | ⟨n,e⟩
 ·exact .inl e.symm
 ·exact .inr ⟨List.mem_of_getElem? e,j,fun z=>n z.symm,e⟩
noncomputable abbrev Fr.setV (F:Fr) (i:Nat) (x:V3):Fr:={F with s:=F.s.set i (some (.v x)),l:=F.l.set i none}
noncomputable abbrev Fr.setM (F:Fr) (i:Nat) (c:C3) (p:Addr):Fr:={F with s:=F.s.set i (some (.m c)),l:=F.l.set i (some p)}
noncomputable abbrev Fr.setN (F:Fr) (i:Nat):Fr:={F with s:=F.s.set i none,l:=F.l.set i none}
theorem zj1 {F:Fr} {i:Nat} {s:S3} {a:Addr} (h:({F with s:=s,l:=F.l.set i none}:Fr).O a):F.O a:=by
 rcases h with h | h | h
 ·exact .inl h
 ·rcases qY h with z | z
  ·cases z
  ·exact .inr (.inl z.1)
 ·exact .inr (.inr h)
theorem Rel.setGen {F:Fr} {i:Nat} {s:S3} {σ':St} (rel:Rel κ F σ H) (hsl:s.length=F.s.length) (hσ:σ'.length=σ.length)
  (hslot: ∀(j:Nat) x,s[j]? =some (some x)→(∃v,σ'[j]? =some (some v)∧SlotR κ ({F with s:=s,l:=F.l.set i none}:Fr) H j x v)):Rel κ {F with s:=s,l:=F.l.set i none} σ' H where
 heap:=rel.heap.sub fun a ha=>zj1 ha
 slen:=by show s.length=_;rw [hsl,hσ];exact rel.slen
 llen:=by show (F.l.set i none).length=s.length;rw [List.length_set,hsl];exact rel.llen
 linj:=fun j k a h1 h2=>by
  rcases qX h1 with ⟨_,z⟩ | ⟨_,z1⟩
  ·cases z
  ·rcases qX h2 with ⟨_,z⟩ | ⟨_,z2⟩
   ·cases z
   ·exact rel.linj j k a z1 z2
 lt:=fun a ha=>by
  rcases qY ha with z | z
  ·cases z
  ·exact rel.lt a z.1
 lo:=fun a ha=>by
  rcases qY ha with z | z
  ·cases z
  ·exact rel.lo a z.1
 to:=rel.to
 tn:=rel.tn
 slot:=hslot
theorem Rel.slotNe {F:Fr} {i j:Nat} {s:S3} {x:Vl} {v:V} (hn:i≠j) (q:SlotR κ F H j x v):SlotR κ ({F with s:=s,l:=F.l.set i none}:Fr) H j x v:=by
 cases x with
 | v x=>exact Rep.sub (fun a ha=>zj1 ha) q
 | m c=>
  obtain ⟨a,h1,h2,h3⟩:=q
  refine ⟨a,?_,h2,h3.sub fun a ha=>zj1 ha⟩
  show (F.l.set i none)[j]? =_
  rw [List.getElem?_set,if_neg hn];exact h1
theorem Rel.setV {x:V3} {v:V} (rel:Rel κ F σ H) (hr:Rep κ F.β F.O H x v) (hi:i < F.s.length):Rel κ (F.setV i x) (σ.set i (some v)) H:=by
 refine rel.setGen (by rw [List.length_set]) (by rw [List.length_set]) fun j y hj=>?_
 rcases qX hj with ⟨e,z⟩ | ⟨n,z⟩
 ·subst e;cases z
  refine ⟨v,?_,Rep.sub (fun a ha=>zj1 ha) hr⟩
  rw [List.getElem?_set,if_pos rfl,if_pos (by rw [←rel.slen];exact hi)]
 ·obtain ⟨w,h1,h2⟩:=rel.slot j y z
  exact ⟨w,by rw [List.getElem?_set,if_neg n];exact h1,Rel.slotNe n h2⟩
theorem Rel.setN {i:Nat} (rel:Rel κ F σ H):Rel κ (F.setN i) σ H:=by
 refine rel.setGen (by rw [List.length_set]) rfl fun j y hj=>?_
 rcases qX hj with ⟨e,z⟩ | ⟨n,z⟩
 ·cases z
 ·obtain ⟨w,h1,h2⟩:=rel.slot j y z
  exact ⟨w,h1,Rel.slotNe n h2⟩
theorem zms {F:Fr} {i:Nat} {s:S3} {a p:Addr} (h:({F with s:=s,l:=F.l.set i (some p)}:Fr).O a):(F.with p).O a:=by
 rcases h with h | h | h
 ·exact .inl (List.mem_cons_of_mem _ h)
 ·rcases qY h with z | z
  ·cases z;exact .inl List.mem_cons_self
  ·exact .inr (.inl z.1)
 ·exact .inr (.inr h)
theorem Rel.setM {c:C3} (rel:Rel κ (F.with p) σ H) (hr:CellR κ F.β (F.with p).O H c p) (hi:i < F.s.length):Rel κ (F.setM i c p) (σ.set i (some (.ref p))) H where
 heap:=rel.heap.sub fun a ha=>zms ha
 slen:=by show (F.s.set i _).length=_;rw [List.length_set,List.length_set];exact rel.slen
 llen:=by show (F.l.set i _).length=(F.s.set i _).length;rw [List.length_set,List.length_set];exact rel.llen
 linj:=fun j k a h1 h2=>by
  rcases qX h1 with ⟨e1,z1⟩ | ⟨n1,z1⟩ <;> rcases qX h2 with ⟨e2,z2⟩ | ⟨n2,z2⟩
  ·omega
  ·cases z1;exact absurd List.mem_cons_self (rel.lt p (List.mem_of_getElem? z2))
  ·cases z2;exact absurd List.mem_cons_self (rel.lt p (List.mem_of_getElem? z1))
  ·exact rel.linj j k a z1 z2
 lt:=fun a ha z=>by
  rcases qY ha with q | q
  ·cases q;exact (List.nodup_cons.mp rel.tn).1 z
  ·exact rel.lt a q.1 (List.mem_cons_of_mem _ z)
 lo:=fun a ha=>by
  rcases qY ha with q | q
  ·cases q;exact rel.to p List.mem_cons_self
  ·exact rel.lo a q.1
 to:=fun a ha=>rel.to a (List.mem_cons_of_mem _ ha)
 tn:=(List.nodup_cons.mp rel.tn).2
 slot:=fun j y hj=>by
  rcases qX hj with ⟨e,z⟩ | ⟨n,z⟩
  ·subst e;cases z
   refine ⟨.ref p,?_,p,?_,rfl,hr.sub fun a ha=>zms ha⟩
   ·rw [List.getElem?_set,if_pos rfl,if_pos (by rw [←rel.slen];exact hi)]
   ·show (F.l.set i _)[i]? =_
    rw [List.getElem?_set,if_pos rfl,if_pos (by have h:=rel.llen;show i < F.l.length;rw [show F.l.length=F.s.length from h];exact hi)]
  ·obtain ⟨w,h1,h2⟩:=rel.slot j y z
   refine ⟨w,by rw [List.getElem?_set,if_neg n];exact h1,?_⟩
   cases y with
   | v x=>exact Rep.sub (fun a ha=>zms ha) h2
   | m c=>
    obtain ⟨a,q1,q2,q3⟩:=h2
    refine ⟨a,?_,q2,q3.sub fun a ha=>zms ha⟩
    show (F.l.set i _)[j]? =_
    rw [List.getElem?_set,if_neg n];exact q1
theorem SExt.setN {s:S3} (ht:F.T=[]):SExt F H ({F with s:=s,l:=F.l.set i none}:Fr) H:=
 ⟨Ext.refl,fun a h=>by
  rcases qY h with z | z
  ·cases z
  ·exact .inl z.1,rfl,ht⟩
noncomputable def Res.bindS {α:Type} (r:Res α) (k:α→H3→O3):O3:=match r with
 | .ok r h=>k r h
 | .ex x h=> .ex x h
 | .no=> .no
theorem bindS {α ω:Type} {K:Kd α ω} {a:S3→H3→Res α} {k:α→H3→O3} (rel:Rel κ F σ H) (ht:F.T=[]) (o:SOut κ E F H D ((a F.s F.h).bindS k)):
  tOf κ E K a σ H (fun w H1=> ∃β1 h1 x,Ext No F.β H β1 H1∧K H (F.to β1 h1) σ H1 x w∧SOut κ E F H D (k x h1)):=by
 refine ⟨F,rel,?_⟩
 cases q:a F.s F.h with
 | no=>rw [q] at o;exact o
 | ex x h1=>rw [q] at o;exact fun β' H' e r=>o (F.to β' h1) H' (SExt.of0 ht e) r
 | ok r h1=>rw [q] at o;exact fun β1 v H1 e p=>⟨β1,h1,r,e,p,o⟩
def sSet (i:Nat) (e:E3):D3:=fun s h=>(e s h).bindS fun r h1=>if i < s.length then .nx (s.set i (some r)) h1 else .no
theorem zoa {d:E3} (h:zx κ E (sSet i d) D σ H):zf κ E d σ H (fun v H1=>D.nx (σ.set i (some v)) H1):=by
 obtain ⟨F,rel,ht,o⟩:=h
 refine (bindS (K:=kE κ) rel ht o).mono fun v H1 ⟨β1,h1,r,e1,p1,o⟩=>?_
 by_cases hi:i < F.s.length
 ·rw [if_pos hi] at o
  cases r with
  | v x=>
   obtain ⟨r1,r2⟩:=p1
   exact o ((F.to β1 h1).setV i x) _ H1 ((SExt.of0 (h':=h1) ht e1).trans (SExt.setN ht)) rfl rfl (r1.setV r2 hi)
  | m c=>
   obtain ⟨p,rfl,r1,r2,hp⟩:=p1
   refine o ((F.to β1 h1).setM i c p) _ H1 ?_ rfl rfl (r1.setM r2 hi)
   exact ⟨(SExt.of0 (h':=h1) ht e1).ext,fun a ha=>by
    rcases qY ha with z | z
    ·cases z;exact .inr hp
    ·exact .inl z.1,rfl,ht⟩
 ·rw [if_neg hi] at o;exact o.elim
theorem zO {x:Str} {pos':Pos} {d:E3} (hN:X.N.Nodup) (hi:X.N[i]? =some x) (hx:Loc X.env.scope x) (he:PE X e (zf κ E d)) (hs:swapsWith e (some (.Name x pos')) pos.line X.env=pure false:=by rfl)
 (hf:X.fn x=true∨X.env.scope.names.lookup x=some .local:=by first | exact .inl rfl | exact .inr rfl | assumption):PS X (.Assign [.Name x pos'] e pos) (zx κ E (sSet i d)):=qp (zwb hN hi hx he hs hf) fun D σ H h=>zoa h
def sExp (e:E3):D3:=fun s h=>(e s h).bindS fun _ h1=> .nx s h1
theorem zwf {d:E3} (he:PE X e (zf κ E d)) (hs:swapsWith e none pos.line X.env=pure false:=by rfl):PS X (.Expr e pos) (zx κ E (sExp d)):=qp (zkj he hs) fun D σ H ⟨F,rel,ht,o⟩=>
 (bindS (K:=kE κ) rel ht o).mono fun v H1 ⟨β1,h1,r,e1,p1,o⟩=>by
  have r1:Rel κ (F.to β1 h1) σ H1:=by
   cases r with
   | v x=>exact p1.1
   | m c=>obtain ⟨p,_,r1,_⟩:=p1;exact Rel.drop r1
  exact o (F.to β1 h1) σ H1 (SExt.of0 ht e1) rfl rfl r1
def sRet (e:E3):D3:=fun s h=>(e s h).bindS fun r h1=> .rt r h1
theorem yn {d:E3} (he:PE X e (zf κ E d)):PS X (.Return (some e) pos) (zx κ E (sRet d)):=qp (zsu he) fun D σ H ⟨F,rel,ht,o⟩=>
 (bindS (K:=kE κ) rel ht o).mono fun v H1 ⟨β1,h1,r,e1,p1,o⟩=>o (F.to β1 h1) σ v H1 (SExt.of0 ht e1) rfl (p1.imp fun p hp=> .inr hp)
def sRetN:D3:=fun _ h=> .rt (.v .non) h
theorem Rel.take {c:C3} (rel:Rel κ F σ H) (hl:F.l[i]? =some (some p)):Rel κ ((F.setN i).with p) σ H:=by
 have r1:=rel.setN (i:=i)
 have ho: ∀a,((F.setN i).with p).O a→F.O a:=fun a ha=>by
  rcases ha with z | z
  ·rcases List.mem_cons.mp z with z | z
   ·subst z;exact .inr (.inl (List.mem_of_getElem? hl))
   ·exact .inl z
  ·rcases z with z | z
   ·rcases qY z with w | w
    ·cases w
    ·exact .inr (.inl w.1)
   ·exact .inr (.inr z)
 have hb: ∀a,some a∈F.l.set i none→a≠p:=fun a ha z=>by
  subst z
  rcases qY ha with w | ⟨_,j,hj,w⟩
  ·cases w
  ·exact hj (rel.linj j i a w hl)
 refine ⟨rel.heap.sub ho,r1.slen,r1.llen,r1.linj,fun a ha z=>?_,r1.lo,fun a ha z=>?_,List.nodup_cons.mpr ⟨fun z=>rel.lt p (List.mem_of_getElem? hl) z,rel.tn⟩,fun j y hj=>?_⟩
 ·rcases List.mem_cons.mp z with z | z
  ·exact hb a ha z
  ·exact r1.lt a ha z
 ·rcases List.mem_cons.mp ha with h | h
  ·subst h;exact rel.lo a (List.mem_of_getElem? hl) z
  ·exact rel.to a h z
 ·rcases qX hj with ⟨_,z⟩ | ⟨n,z⟩
  ·cases z
  ·obtain ⟨w,h1,h2⟩:=rel.slot j y z
   refine ⟨w,h1,?_⟩
   cases y with
   | v x=>exact Rep.sub ho h2
   | m c=>
    obtain ⟨a,q1,q2,q3⟩:=h2
    refine ⟨a,?_,q2,q3.sub ho⟩
    show (F.l.set i none)[j]? =_
    rw [List.getElem?_set,if_neg n];exact q1
theorem zw3 {a:Addr} (hl:F.l[i]? =some (some p)) (ha:((F.setN i).with p).O a):F.O a:=by
 rcases ha with z | z
 ·rcases List.mem_cons.mp z with z | z
  ·subst z;exact .inr (.inl (List.mem_of_getElem? hl))
  ·exact .inl z
 ·rcases z with z | z
  ·rcases qY z with w | w
   ·cases w
   ·exact .inr (.inl w.1)
  ·exact .inr (.inr z)
noncomputable def sRetS (i:Nat):D3:=fun s h=>match s[i]? with
 | some (some r)=> .rt r h
 | _=> .no
theorem zdg (hv:PE X e (tVar i)):PS X (.Return (some e) pos) (zx κ E (sRetS i)):=qp (zsu hv) fun D σ H ⟨F,rel,ht,o⟩=>by
 unfold sRetS at o
 cases q:F.s[i]? with
 | none=>rw [q] at o;exact o.elim
 | some z=>
  rw [q] at o
  match z,q,o with
  | none,q,o=>exact o.elim
  | some (.v x),q,o=>
   obtain ⟨v,h1,h2⟩:=rel.slot i _ q
   exact ⟨v,h1,o F σ v H (.refl ht) rfl ⟨rel,h2⟩⟩
  | some (.m c),q,o=>
   obtain ⟨v,h1,a,h2,h3,h4⟩:=rel.slot i _ q
   subst h3
   exact ⟨_,h1,o (F.setN i) σ (.ref a) H (SExt.setN ht) rfl ⟨a,rfl,Rel.take (c:=c) rel h2,h4.sub fun b hb=>zw3 h2 hb,.inl (List.mem_of_getElem? h2)⟩⟩
def sFz (i:Nat):D3:=fun s h=>match s[i]? with
 | some (some (.m c))=>match c.fz with
  | some x=> .nx (s.set i (some (.v x))) h
  | none=> .no
 | _=> .nx s h
theorem zzl {d:D3} (h:zx κ E (sSeq (sFz i) d) D σ H):zx κ E d D σ H:=by
 obtain ⟨F,rel,ht,o⟩:=h
 unfold sSeq sFz at o
 have same:(match (F.s[i]? :Option (Option Vl)) with | some (some (.m c))=>False | _=>True)→SOut κ E F H D (d F.s F.h)→zx κ E d D σ H:=fun _ o=>⟨F,rel,ht,o⟩
 cases q:F.s[i]? with
 | none=>rw [q] at o same;exact same trivial o
 | some z=>
  rw [q] at o same
  match z,q,o,same with
  | none,q,o,same=>exact same trivial o
  | some (.v x),q,o,same=>exact same trivial o
  | some (.m c),q,o,same=>
   cases z:c.fz with
   | none=>simp only [z] at o;exact o.elim
   | some x=>
    simp only [z] at o
    obtain ⟨v,h1,a,h2,h3,h4⟩:=rel.slot i _ q
    subst h3
    have hi:i < F.s.length:=(List.getElem?_eq_some_iff.mp q).1
    have rt:=Rel.take (c:=c) rel h2
    have rep:Rep κ F.β (F.setN i).O H x (.ref a):=(h4.sub (O':=(F.setN i).O) fun b hb=>zj1 hb).fz z rt.offp rt.apart
    have r2:=(rel.setN (i:=i)).setV (i:=i) (x:=x) (v:= .ref a) rep (by show i < (F.s.set i none).length;rw [List.length_set];exact hi)
    have e1:(F.setN i).setV i x=F.setV i x:=by
     show ({F with s:=(F.s.set i none).set i _,l:=(F.l.set i none).set i none}:Fr)={F with s:=F.s.set i _,l:=F.l.set i none}
     rw [List.set_set,List.set_set]
    have e2:σ.set i (some (.ref a))=σ:=by
     apply List.ext_getElem?;intro j
     rw [List.getElem?_set]
     by_cases hj:i=j
     ·subst hj;rw [if_pos rfl,if_pos (by rw [←rel.slen];exact hi),h1]
     ·rw [if_neg hj]
    rw [e1,e2] at r2
    exact ⟨F.setV i x,r2,ht,SOut.move (SExt.setN ht) o⟩
theorem yh {sts:List Stmt} {d:D3} (i:Nat) (h:yR X sts (zx κ E d)):yR X sts (zx κ E (sSeq (sFz i) d)):=PSsw h fun D σ H q=>zzl q
def sIf (t:T3) (a b:D3):D3:=fun s h=>(t s h).bindS fun c h1=>if c=true then a s h1 else b s h1
theorem yL {c:Expr} {sa sb:List Stmt} {t:T3} {da db:D3} (hc:PT X c (zL κ E t)) (ha:yR X sa (zx κ E da)) (hb:yR X sb (zx κ E db)):PS X (.If c sa sb pos) (zx κ E (sIf t da db)):=qp (z0c hc ha hb) fun D σ H ⟨F,rel,ht,o⟩=>
 (bindS (K:=kT κ) rel ht o).mono fun c H1 ⟨β1,h1,x,e1,⟨ec,r1⟩,o1⟩=>by
  subst ec
  have mv:=SExt.of0 (h':=h1) ht e1
  cases c with
  | true=>rw [if_pos rfl] at o1 ⊢;exact ⟨F.to β1 h1,r1,ht,SOut.move mv o1⟩
  | false=>rw [if_neg Bool.false_ne_true] at o1 ⊢;exact ⟨F.to β1 h1,r1,ht,SOut.move mv o1⟩
def sNever:D3:=fun _ _=> .no
theorem zqy {st:Stmt}:PS X st (zx κ E sNever):=qp zrf fun D σ H ⟨F,rel,ht,o⟩=>o
abbrev G3:=V3→S3→Option S3
abbrev Gs3:=List V3→S3→Option S3
noncomputable def gN (i:Nat):G3:=fun x s=>if i < s.length then some (s.set i (some (.v x))) else none
def gsNil:Gs3:=fun xs s=>match xs with
 | []=>some s
 | _=>none
noncomputable def gsCons (g:G3) (gs:Gs3):Gs3:=fun xs s=>match xs with
 | x::r=>(g x s).bind fun s1=>gs r s1
 | []=>none
def gT (gs:Gs3):G3:=fun x s=>match x with
 | .tup xs=>gs xs s
 | _=>none
def gL (gs:Gs3):G3:=fun x s=>match x with
 | .lst xs=>gs xs s
 | _=>none
def yK (κ:Kx) (g:G3):TG:=fun v σ H Q=> ∃F x s',Rel κ F σ H∧F.T=[]∧Rep κ F.β F.O H x v∧g x F.s=some s'∧∀F' σ',SExt F H F' H→F'.β=F.β→F'.s=s'→F'.h=F.h→Rel κ F' σ' H→Q σ' H
def zry (κ:Kx) (g:Gs3):jb:=fun vs σ H Q=> ∃F xs s',Rel κ F σ H∧F.T=[]∧Reps κ F.β F.O H xs vs∧g xs F.s=some s'∧∀F' σ',SExt F H F' H→F'.β=F.β→F'.s=s'→F'.h=F.h→Rel κ F' σ' H→Q σ' H
theorem PGw {tg:Expr} {t t':TG} (h:PG X tg t) (w: ∀v σ H Q,t' v σ H Q→t v σ H Q):PG X tg t':=fun pins s σ H v u Q I r q=>h pins s σ H v u Q I r (w v σ H Q q)
theorem PGsw {tg:List Expr} {t t':jb} (h:qN X tg t) (w: ∀v σ H Q,t' v σ H Q→t v σ H Q):qN X tg t':=fun pins s σ H v u Q I r q=>h pins s σ H v u Q I r (w v σ H Q q)
theorem zsn {a:Addr} {o:HO} (e:SExt F H F' H') (ha:H a=some o) (n: ¬F.O a): ¬F'.O a:=fun z=>by
 rcases z with z | z | z
 ·rw [e.tt] at z;cases z
 ·rcases e.lam a z with w | w
  ·exact n (.inr (.inl w))
  ·rw [ha] at w;cases w
 ·rw [e.oi] at z;exact n (.inr (.inr z))
theorem Rep.sext {x:V3} {v:V} (e:SExt F H F' H') (r:Rep κ F.β F.O H x v):Rep κ F'.β F'.O H' x v:=r.ext e.ext (fun a h=> .inr (.inl h)) fun a o ha n=>zsn e ha n
theorem Reps.sext {x:List V3} {v:List V} (e:SExt F H F' H') (r:Reps κ F.β F.O H x v):Reps κ F'.β F'.O H' x v:=r.ext e.ext (fun a h=> .inr (.inl h)) fun a o ha n=>zsn e ha n
theorem zM {tg:Expr} (h:PG X tg (zpt i)):PG X tg (yK κ (gN i)):=PGw h fun v σ H Q ⟨F,x,s',rel,ht,r,e,k⟩=>by
 unfold gN at e
 by_cases hi:i < F.s.length
 ·rw [if_pos hi] at e;cases e
  exact k (F.setV i x) _ (SExt.setN ht) rfl rfl rfl (rel.setV r hi)
 ·rw [if_neg hi] at e;cases e
theorem qr:qN X [] (zry κ gsNil):=PGsw zu1 fun v σ H Q ⟨F,xs,s',rel,ht,r,e,k⟩=>by
 cases r with
 | nil=>cases e;exact ⟨rfl,k F σ (.refl ht) rfl rfl rfl rel⟩
 | cons _ _=>cases e
theorem z0 {es:List Expr} {g:G3} {gs:Gs3} (h1:PG X e (yK κ g)) (h2:qN X es (zry κ gs)) (hh: ∀{t:TG} {u:jb},PG X e t→qN X es u→qN X (e::es) (zwy t u)):qN X (e::es) (zry κ (gsCons g gs)):=PGsw (hh h1 h2) fun v σ H Q ⟨F,xs,s',rel,ht,r,e,k⟩=>by
 cases r with
 | nil=>cases e
 | @cons x y xs ys a b=>
  cases q:g x F.s with
  | none=>simp only [gsCons,q] at e;cases e
  | some s1=>
   simp only [gsCons,q] at e
   refine ⟨y,ys,rfl,F,x,s1,rel,ht,a,q,fun F1 σ1 e1 b1 s1' h1 r1=>?_⟩
   have e:gs xs s1=some s':=e
   refine ⟨F1,xs,s',r1,e1.tt,b.sext e1,by rw [s1'];exact e,fun F2 σ2 e2 b2 s2' h2 r2=>?_⟩
   exact k F2 σ2 (e1.trans e2) (b2.trans b1) s2' (h2.trans h1) r2
theorem qw {tg:Expr} {gs:Gs3} {n:Nat} (h:PG X tg (gTup X.K n (zry κ gs))) (hn: ∀xs s s',gs xs s=some s'→xs.length=n):PG X tg (yK κ (gT gs)):=PGw h fun v σ H Q ⟨F,x,s',rel,ht,r,e,k⟩=>by
 unfold gT at e
 cases x <;> first | cases e | skip
 cases r with
 | tup h1 h2 h3 h4=>exact ⟨_,_,rfl,.of h1,by rw [←h4.length];exact hn _ _ _ e,F,_,s',rel,ht,h4,e,k⟩
def sAsg (g:G3) (e:E3):D3:=fun s h=>(e s h).bindS fun r h1=>match r.fz with
 | some x=>match g x s with
  | some s1=> .nx s1 h1
  | none=> .no
 | none=> .no
theorem zv9 {d:E3} {g:G3} (h:zx κ E (sAsg g d) D σ H):tAsg (zf κ E d) (yK κ g) D σ H:=by
 obtain ⟨F,rel,ht,o⟩:=h
 refine (bindS (K:=kE κ) rel ht o).mono fun v H1 ⟨β1,h1,r,e1,p1,o⟩=>?_
 cases z:r.fz with
 | none=>simp only [z] at o;exact o.elim
 | some x=>
  simp only [z] at o
  cases w:g x F.s with
  | none=>rw [w] at o;exact o.elim
  | some s1=>
   rw [w] at o
   obtain ⟨r1,r2⟩:=Post.fz p1 z
   exact ⟨F.to β1 h1,x,s1,r1,ht,r2,w,fun F' σ' e' b' s' h' r'=>o F' σ' H1 ((SExt.of0 (h':=h1) ht e1).trans e') s' h' r'⟩
theorem zs3 {tg:Expr} {d:E3} {g:G3} (he:PE X e (zf κ E d)) (hg:PG X tg (yK κ g)) (hh: ∀{te:TE} {g:TG},PE X e te→PG X tg g→PS X (.Assign [tg] e pos) (tAsg te g)):PS X (.Assign [tg] e pos) (zx κ E (sAsg g d)):=qp (hh he hg) fun D σ H h=>zv9 h
end
structure It3 where
 its:List V3
 xs:List V3
 ok:H3→Prop
def IR (κ:Kx) (it:It3) (vs:List V) (J:It):Prop:=∀(F:Fr) (σ:St) (H:Hp),Rel κ F σ H→Reps κ F.β F.O H it.its vs→it.ok F.h→∀i:Nat,
 (i < it.xs.length→J.go i H∧∀x H',J.yld i H x H'→∃x3,it.xs[i]? =some x3∧Ext No F.β H F.β H'∧Rel κ F σ H'∧Rep κ F.β F.O H' x3 x)∧(it.xs.length≤i→J.stop i H)
abbrev I3:=S3→H3→Res It3
def kI (κ:Kx):Kd It3 It:=fun _ F σ H' it J=>Rel κ F σ H'∧∃vs,Reps κ F.β F.O H' it.its vs∧IR κ it vs J
abbrev yC (κ:Kx) (E:XK) (d:I3):TI:=tOf κ E (kI κ) d
open Classical in
def zK (ok:H3→Prop) (g:G3) (b:D3):List V3→S3→H3→O3
 | [],s,h=>if ok h then .nx s h else .no
 | x::r,s,h=>if ok h then match g x s with
  | none=> .no
  | some s1=>match b s1 h with
   | .nx s2 h2=>zK ok g b r s2 h2
   | .ct s2 h2=>zK ok g b r s2 h2
   | .bk s2 h2=> .nx s2 h2
   | o=>o
  else .no
def zo (it:I3) (g:G3) (b:D3):D3:=fun s h=>(it s h).bindS fun I h1=>zK I.ok g b I.xs s h1
open Classical in
section
variable {X:Cx} {κ:Kx} {E:XK} {F F1 F2 F':Fr} {σ σ':St} {H H1 H2 H':Hp} {Q:VK} {p:Addr} {e a b:Expr} {pos:Pos} {i:Nat} {D:Ends}
theorem km_I:zk4 (kI κ):=fun _ _ _ _ _ _ _ _ _ _ _ h=>h
theorem zw4 {it:I3} {g:G3} {b:D3} (h:zx κ E (zo it g b) D σ H):tFor (yC κ E it) (yK κ g) (zx κ E b) D σ H:=by
 obtain ⟨F,rel,ht,o⟩:=h
 refine (bindS (K:=kI κ) rel ht o).mono fun J H1 ⟨β1,h1,I,e1,⟨r1,vs,rv,ir⟩,o1⟩=>?_
 refine ⟨fun i m σ H=>m=I.xs.length - i∧i≤I.xs.length∧∃Fk,Rel κ Fk σ H∧Fk.T=[]∧Reps κ Fk.β Fk.O H I.its vs∧SOut κ E Fk H D (zK I.ok g b (I.xs.drop i) Fk.s Fk.h),⟨_,rfl,Nat.zero_le _,F.to β1 h1,r1,ht,rv,SOut.move (SExt.of0 (h':=h1) ht e1) o1⟩,?_⟩
 rintro i m σ' H' ⟨rfl,hi,Fk,rk,tk,vk,ok⟩
 by_cases hok:I.ok Fk.h
 case neg=>
  exfalso
  cases q:I.xs.drop i with
  | nil=>rw [q] at ok;unfold zK at ok;rw [if_neg hok] at ok;exact ok
  | cons x r=>rw [q] at ok;unfold zK at ok;rw [if_neg hok] at ok;exact ok
 obtain ⟨i1,i2⟩:=ir Fk σ' H' rk vk hok i
 by_cases hlt:i < I.xs.length
 ·obtain ⟨go,yl⟩:=i1 hlt
  refine .inr ⟨go,fun σ2 H2=> ∃F2,Rel κ F2 σ2 H2∧F2.T=[]∧Reps κ F2.β F2.O H2 I.its vs∧SOut κ E F2 H2 D (zK I.ok g b (I.xs.drop (i+1)) F2.s F2.h),fun σ2 H2 n2=>⟨_,by omega,rfl,hlt,n2⟩,fun x H'' y=>?_⟩
  obtain ⟨x3,ex,ey,ry,rp⟩:=yl x H'' y
  have hd:I.xs.drop i=x3::I.xs.drop (i+1):=by
   rw [List.drop_eq_getElem_cons hlt]
   congr 1
   rw [zy hlt] at ex
   exact Option.some.inj ex
  rw [hd] at ok
  have ok:=SOut.move (SExt.of0 (h':=Fk.h) tk ey) ok
  unfold zK at ok
  rw [if_pos hok] at ok
  cases w:g x3 Fk.s with
  | none=>simp only [w] at ok;exact ok.elim
  | some s1=>
   simp only [w] at ok
   refine ⟨Fk,x3,s1,ry,tk,rp,w,fun F3 σ3 e3 b3 s3 h3 r3=>?_⟩
   refine ⟨F3,r3,e3.tt,?_⟩
   rw [s3,h3]
   have ok:=SOut.move e3 ok
   have ev:Reps κ F3.β F3.O H'' I.its vs:=(vk.ext0 ey).sext e3
   cases q:b s1 Fk.h with
   | nx s2 h2=>simp only [q] at ok;exact fun F4 σ4 H4 e4 s4 h4 r4=>⟨F4,r4,e4.tt,ev.sext e4,by rw [s4,h4];exact SOut.move e4 ok⟩
   | ct s2 h2=>simp only [q] at ok;exact fun F4 σ4 H4 e4 s4 h4 r4=>⟨F4,r4,e4.tt,ev.sext e4,by rw [s4,h4];exact SOut.move e4 ok⟩
   | bk s2 h2=>simp only [q] at ok;exact ok
   | rt r h2=>simp only [q] at ok;exact ok
   | ex x h2=>simp only [q] at ok;exact ok
   | no=>simp only [q] at ok;exact ok
 ·have hi:i=I.xs.length:=by omega
  subst hi
  rw [List.drop_length] at ok
  unfold zK at ok
  rw [if_pos hok] at ok
  exact .inl ⟨i2 (Nat.le_refl _),ok Fk σ' H' (.refl tk) rfl rfl rk⟩
theorem yW {tg iter:Expr} {body:List Stmt} {it:I3} {g:G3} {b:D3} (hp:PassesOwn (model X.prog X.w) X.A X.env X.xe) (hc:X.calm=true) (hi:PI X tg iter (yC κ E it)) (hg:PG X tg (yK κ g)) (hb:yR X body (zx κ E b))
 (hs: ∀x,foldedSetIterable iter X.env x=pure x:=by intro _;rfl):PS X (.For tg iter body [] pos) (zx κ E (zo it g b)):=qp (zwd hp hc hi hg hb hs) fun D σ H h=>zw4 h
noncomputable def yj (h:H3):V3→Option (List V3×(H3→Prop))
 | .lst xs=>some (xs,fun _=>True)
 | .scr ns=>some (ns.map .int,fun _=>True)
 | .loc n=>match h[n]? with
  | some (.lst xs)=>some (xs,fun h=>h[n]? =some (.lst xs))
  | _=>none
 | _=>none
theorem zxw {F:Fr} {σ:St} {H:Hp} {x:V3} {xs:List V3} {v:V} (rel:Rel κ F σ H) (r:Rep κ F.β F.O H x v) (e:rdl F.s F.h (.x x)=some xs): ∃a ys,v= .ref a∧SqL κ.K H a ys∧Reps κ F.β F.O H xs ys:=zfn (f:= .x x) rel r e
theorem zdr {h:H3} {x:V3} {xs:List V3} {ok:H3→Prop} (e:yj h x=some (xs,ok)):ok h∧∀s h',ok h'→rdl s h' (.x x)=some xs:=by
 cases x <;> simp [yj] at e
 case lst zs=>obtain ⟨rfl,rfl⟩:=e;exact ⟨trivial,fun _ _ _=>rfl⟩
 case scr ns=>obtain ⟨rfl,rfl⟩:=e;exact ⟨trivial,fun _ _ _=>rfl⟩
 case loc n=>
  cases q:h[n]? with
  | none=>rw [q] at e;cases e
  | some c=>
   rw [q] at e
   cases c <;> simp at e
   obtain ⟨rfl,rfl⟩:=e
   exact ⟨q,fun s h' hh=>by simp only [rdl,hh]⟩
theorem zds {F:Fr} {σ:St} {H:Hp} {h:H3} {x:V3} {xs:List V3} {ok:H3→Prop} {v:V} (e:yj h x=some (xs,ok)) (rel:Rel κ F σ H) (r:Rep κ F.β F.O H x v) (hk:ok F.h): ∃a ys,v= .ref a∧SqL κ.K H a ys∧Reps κ F.β F.O H xs ys:=zxw rel r ((zdr e).2 _ _ hk)
theorem PIw {tg iter:Expr} {t t':TI} (h:PI X tg iter t) (w: ∀σ H R,t' σ H R→t σ H R):PI X tg iter t':=fun pins s σ H R I q=>h pins s σ H R I (w σ H R q)
def iL (p:P3):I3:=fun s h=>(p s h).bind fun f h1=>match f with
 | .x x=>match yj h1 x with
  | some (xs,ok)=> .ok ⟨[x],xs,ok⟩ h1
  | none=> .no
 | _=> .no
theorem qk {tg l:Expr} {d:P3} (hK:X.K=κ.K) (hl:PE X l (zl κ E d)):PI X tg l (yC κ E (iL d)):=PIw (zva hl) fun σ H R ⟨F,rel,o⟩=>
 (zY (K:=kP κ) km_I rel o).mono fun v H1 ⟨β1,h1,f,e1,⟨r1,rf⟩,o1⟩=>by
  rw [hK]
  match f,rf,o1 with
  | .s _,rf,o1=>exact o1.elim
  | .x x,rf,o1=>
   cases q:yj h1 x with
   | none=>simp only [q] at o1;exact o1.elim
   | some w=>
    obtain ⟨xs,ok⟩:=w
    simp only [q] at o1
    have rf:Rep κ β1 F.O H1 x v:=rf
    obtain ⟨a,ys,ev,sq,rs⟩:=zds (F:=F.to β1 h1) q r1 rf (zdr q).1
    subst ev
    refine ⟨a,rfl,⟨ys,sq⟩,o1 β1 _ H1 Ext.refl ⟨r1,[.ref a],.cons rf .nil,fun F' σ' H' rel' r' hk i=>?_⟩⟩
    cases r' with
    | cons r'' _=>
     obtain ⟨a',ys',ev',sq',rs'⟩:=zds q rel' r'' hk
     cases ev'
     refine ⟨fun hi=>⟨?_,fun y H' ⟨e,yl⟩=>?_⟩,fun hi=>⟨ys',sq',by rw [←rs'.length];exact hi⟩⟩
     ·obtain ⟨y,hy,_⟩:=rs'.get (i:=i) (zy hi)
      exact ⟨ys',y,sq',hy⟩
     ·subst e
      obtain ⟨x3,h1,h2⟩:=rs'.get' (yl ys' sq')
      exact ⟨x3,h1,Ext.refl,rel',h2⟩
end
end L3
namespace L2
open PySem PySem.Spec PyProof.Rows
def Trc (h:Heap) (a T:Addr) (cls a0:Value):Prop:=
 ∃oe vs oT ts,h.get? a=some oe∧(oe.cls=cls∧vs[0]? =some a0)∧oe.data= .fields vs∧vs[1]? =some (.ref T)∧T≠a∧h.get? T=some oT∧oT.data= .fields ts∧ts[3]? =some .none
structure Left (l:List Env) (hid:List Addr) (a T':Addr) (cls a0:Value) (h h':Heap):Prop where
 keep: ∀b o,h.get? b=some o→b∉hid→h'.get? b=some o
 slot: ∀b o,h.get? b=some o→b∈yz l→∃sl,h'.get? b=some {o with slots:=sl}
 trc:Trc h' a T' cls a0
 new: ∀b o,h.get? b=some o→b∉hid→b≠T'
 nfr:T'∉yz l
section
variable {M:Model} {A:Around} {E:Value→Shared→Prop} {s:Shared} {base:Heap} {env:Env} {outer:List Env} {L a T:Addr} {cls a0:Value} {Q:Unit→Shared→Prop}
theorem zu2 {l:List Env}: ∀env∈l,∀b,env.frame=some b→b∈yz l:=fun env he b hb=>List.mem_filterMap.mpr ⟨env,he,hb⟩
theorem zt9 {l:List Env} {hid:List Addr} {h h':Heap} (hf: ∀b∈yz l,b∈hid) (hl:h.FunFrames base l) (x:Heap.LeftW (PySem.W.hideAll h hid) l a cls a0 h h'): ∃T',Left l hid a T' cls a0 h h':=by
 obtain ⟨x1,x2,x3,x4⟩:=x
 obtain ⟨oe,vs,T',oT,ts,t1,t2,t3,t4,t5,t6,t7,t8,t9⟩:=x3
 have kp: ∀b o,h.get? b=some o→b∉hid→(PySem.W.hideAll h hid).get? b=some o:=fun b o e n=>PySem.W.hideAll_get hid e n
 refine ⟨T',fun b o e n=>x1 b o (kp b o e n),fun b o e hb=>?_,⟨oe,vs,oT,ts,t1,t2,t3,t4,t6,t7,t8,t9⟩,fun b o e n z=>?_,fun hb=>?_⟩
 ·refine x4 b o e fun vs hv=>?_
  obtain ⟨_,o',ho',hn⟩:=hl.mem hb
  rw [e] at ho'
  cases ho'
  exact hn vs hv
 ·have:=kp b o e n
  rw [z,t5] at this
  cases this
 ·obtain ⟨_,o',ho',hn⟩:=x2.mem hb
  rw [t7] at ho'
  cases ho'
  exact hn ts t8
theorem zq1 (hfr:A.frames=some (env::outer)) (hl:s.heap.FunFrames base (env::outer)) (hf:env.frame=some L) (tr:Trc s.heap a T cls a0)
  (hQ: ∀h' T',Left (env::outer) (a::T::yz (env::outer)) a T' cls a0 s.heap h'→Q () {s with heap:=h'}):wpAny M A (leaving env (.ref a)) Q E s:=by
 obtain ⟨oe,vs,oT,ts,t1,t2,t3,t4,t6,t7,t8,t9⟩:=tr
 have hid: ∀b∈yz (env::outer),b∈a::T::yz (env::outer):=fun b hb=> .tail _ (.tail _ hb)
 refine wpAny_leaving_nextW (base:=PySem.W.hideAll s.heap (a::T::yz (env::outer))) (cls:=cls) (a0:=a0) hfr (PySem.W.funFrames_hide hl fun e he b hb=>hid b (zu2 e he b hb)) hf
  ⟨oe,vs,T,oT,ts,t1,t2,t3,t4,PySem.W.hideAll_none _ (.tail _ (.head _)),t6,t7,t8,t9⟩ (fun b o q=>PySem.W.of_hideAll _ q) (PySem.W.hideAll_none _ (.head _)) fun h' x=>?_
 obtain ⟨T',y⟩:=zt9 hid hl x
 exact hQ h' T' y
end
theorem HOk.there {P:Program} {w:World} {H:Hp} {h:Heap} {a:Addr} {o:HO} (x:HOk P w H h) (q:H a=some o): ∃ob,h.get? a=some ob:=by
 have this:=x a o q
 cases e:h.get? a with
 | some ob=>exact ⟨ob,rfl⟩
 | none=>
  exfalso
  cases o with
  | lst xs=>obtain ⟨_,_,_,_,z⟩:=this;rw [e] at z;cases z
  | tup xs=>obtain ⟨_,_,_,o1,z,_⟩:=this;rw [e] at z;cases z
  | dK kvs=>obtain ⟨_,_,_,_,o,_,_,z,_⟩:=this;rw [e] at z;cases z
  | dT kvs=>obtain ⟨_,_,_,_,o,_,_,z,_⟩:=this;rw [e] at z;cases z
  | set S n=>obtain ⟨o,_,_,_,z,_⟩:=this;rw [e] at z;cases z
  | ins C dx fs=>obtain ⟨_,_,_,z,_⟩:=this;rw [e] at z;cases z
  | own y=>obtain ⟨_,z⟩:=this;rw [e] at z;cases z
  | xd fs=>obtain ⟨_,⟨_,_,_,z,_⟩,_⟩:=this;rw [e] at z;cases z
  | rng lo hi=>obtain ⟨_,_,_,z⟩:=this;rw [e] at z;cases z
  | frz ob u=>obtain ⟨z,_⟩:=this;rw [e] at z;cases z
  | tbl ps=>have z:h.get? a=some _:=this;rw [e] at z;cases z
  | met f y=>have z:h.get? a=some _:=this;rw [e] at z;cases z
  | ext φ=>obtain ⟨_,⟨_,z⟩,_⟩:=this;rw [e] at z;cases z
def XT (P:Program) (w:World):qQ:=fun outer H s E e s'=> ∃(a T:Addr) (cls a0:Value) (H':Hp),e= .ref a∧s'.os=s.os∧AllBare s'.gens∧Un (yz outer) [] H H' s.heap s'.heap∧HOk P w H' s'.heap∧
 s.heap.get? a=none∧s.heap.get? T=none∧H' a=none∧H' T=none∧Trc s'.heap a T cls a0∧E cls none H'
section
variable {P:Program} {w:World} {K:PySem.W.Frag} {mg:Str→Option Value} {base:Heap} {N:List Str} {qual:Str} {scope:Scope} {f:Addr} {cd:Value} {A:Around} {outer:List Env} {s0:Shared} {H0:Hp} {E:XK}
theorem Inv.left {X:Cx} {pins:List (Addr×Obj)} {σ:St} {H:Hp} {s:Shared} {hid:List Addr} {a T':Addr} {cls a0:Value} {h':Heap} (hst:X.stack=X.env::X.outer) (hex:X.ex=[]) (I:Inv X pins σ H s) (y:Left X.stack hid a T' cls a0 s.heap h')
  (hh: ∀b∈hid,(b∈yz X.stack∨X.s₀.heap.get? b=none)∧H b=none):
  Un X.fs [] X.H₀ H X.s₀.heap h'∧HOk X.prog X.w H h'∧X.s₀.heap.get? T'=none∧H T'=none:=by
 have hfo: ∀b o,X.s₀.heap.get? b=some o→b∉X.fs→b∉yz X.stack:=fun b o e n hb=>by
  rcases List.mem_cons.mp (I.stkSub b hb) with z | z
  ·have h1:=Heap.lt_size e
   have h2:=I.ok.above
   rw [z] at h1
   exact absurd (Nat.lt_of_lt_of_le h1 h2) (Nat.lt_irrefl _)
  ·exact n z
 have nh: ∀b o,X.s₀.heap.get? b=some o→b∉X.fs→b∉hid:=fun b o e n hb=>by
  rcases (hh b hb).1 with z | z
  ·exact hfo b o e n z
  ·rw [e] at z;cases z
 have fsub: ∀b∈X.fs,b∈yz X.stack:=fun b hb=>by
  rw [hst]
  obtain ⟨v,hv,e⟩:=List.mem_filterMap.mp hb
  exact List.mem_filterMap.mpr ⟨v,.tail _ hv,e⟩
 have U:=I.base
 rw [hex] at U
 have no: ∀b:Addr,b∉([]:List Addr):=fun b z=>nomatch z
 have anyway: ∀b o,s.heap.get? b=some o→(b∉hid∨b∈yz X.stack)→∃o',h'.get? b=some o':=fun b o e d=>by
  rcases d with d | d
  ·exact ⟨o,y.keep b o e d⟩
  ·obtain ⟨sl,q⟩:=y.slot b o e d
   exact ⟨_,q⟩
 refine ⟨⟨fun b o e n hb _=>y.keep b o (U.keep b o e n hb (no b)) (nh b o e hb),fun b o e n hb _=>?_,U.free,fun b o e _=>?_,U.tups,U.frzs,U.tbls⟩,fun b o e=>?_,?_,?_⟩
 ·obtain ⟨sl,q⟩:=U.slot b o e n hb (no b)
  obtain ⟨sl',q'⟩:=y.slot b _ q (fsub b hb)
  exact ⟨sl',q'⟩
 ·obtain ⟨o',q⟩:=U.there b o e (no b)
  refine anyway b o' q ?_
  by_cases z:b∈X.fs
  ·exact .inr (fsub b z)
  ·exact .inl (nh b o e z)
 ·refine (I.hok b o e).stay (fun c u hc ec=>y.keep c u ec fun hm=>?_) (fun _ z=>z) fun _ _ z=>z
  have:=(hh c hm).2
  rcases hc with z | z
  ·rw [z,e] at this;cases this
  ·rw [z] at this;cases this
 ·cases q:X.s₀.heap.get? T' with
  | none=>rfl
  | some o=>
   exfalso
   obtain ⟨o',q'⟩:=U.there T' o q (no T')
   by_cases z:T'∈X.fs
   ·exact y.nfr (fsub _ z)
   ·exact y.new T' o' q' (nh T' o q z) rfl
 ·cases q:H T' with
  | none=>rfl
  | some o=>
   exfalso
   obtain ⟨ob,hob⟩:=I.hok.there q
   refine y.new T' ob hob (fun hm=>?_) rfl
   have:=(hh T' hm).2
   rw [q] at this;cases this
theorem yf:zef (XT P w) (cxOf (XT P w) P w K mg base N qual scope f cd A outer s0 H0 E) E:=by
 intro pins σ H s e s' I hx
 obtain ⟨a,T,cls,a0,H',rfl,os,bare,un,hok,na,nT,ha,hT,tr,q⟩:=hx
 have I':Inv (cxOf (XT P w) P w K mg base N qual scope f cd A outer s0 H0 E) pins σ H' s':=I.call' os un hok bare fun b z=>nomatch z
 have old: ∀b,s.heap.get? b=none→s0.heap.get? b=none:=fun b e=>by
  cases z:s0.heap.get? b with
  | none=>rfl
  | some o=>
   obtain ⟨o',q'⟩:=I.base.there b o z fun y=>nomatch y
   rw [e] at q';cases q'
 refine zq1 (base:=base) (L:=s0.heap.objs.size) I'.ok.frames I'.stack rfl tr fun h' T' y=>?_
 obtain ⟨u,hk,n1,n2⟩:=I'.left rfl rfl y fun b hb=>by
  rcases List.mem_cons.mp hb with z | hb
  ·rw [z];exact ⟨.inr (old a na),ha⟩
  ·rcases List.mem_cons.mp hb with z | hb
   ·rw [z];exact ⟨.inr (old T nT),hT⟩
   ·exact ⟨.inl hb,I'.stkFree b hb⟩
 exact ⟨a,T',cls,a0,H',rfl,I'.os,I'.bare,u,hk,old a na,n1,ha,n2,y.trc,q⟩
end
section
variable {X:Cx} {x:Str} {C:Addr} {np cpos pos:Pos} {e:Expr} {es:List Expr} {ta:TA} {E:XK}
end
theorem Fun.okX {P:Program} {w:World} {K:PySem.W.Frag} {mg:Str→Option Value} {base:Heap} {x qual:Str} {st:Stmt} {f:Addr} {fd:FuncData} {N ps:List Str} {k:Nat} {sp:Sp} (F:Fun K x qual st f fd) (S:FnScope N ps (zT st)) (len: ∀vs H Q E,sp vs H Q E→vs.length=ps.length)
  (hbody: ∀(cdv:Value) (A:Around) (outer:List Env) (s:Shared) (H:Hp) (vs:List V) (Q:VK) (E:XK),Room k (A.deeper (envOfC qual (zT st) s.heap.objs.size f cdv))→sp vs H Q E→
   ∃t,yR (cxOf (XT P w) P w K mg base N qual (zT st) f cdv A outer s H E) (zeo st) t∧t {nx:=fun _ H'=>Q .non H',rt:=Q} (start N vs) H):FnOk P w K mg base (XT P w) (k+1) f fd ps sp:=by
 obtain ⟨oc,od,kV,doc,pm,an,cdv,ct,osl,rfl,lk,hcd⟩:=F.ex
 exact zz0 lk hcd S len fun A outer s H vs Q E hr hsp=>hbody cdv A outer s H vs Q E hr hsp
section
variable {X:Cx} {pins:List (Addr×Obj)} {σ:St} {H:Hp} {s:Shared}
end
section
variable {X:Cx} {pins:List (Addr×Obj)} {σ:St} {H:Hp} {s:Shared}
end
end L2
namespace L3
open PySem PySem.Spec PyProof.Rows L2
abbrev F3:=List V3→H3→Res Vl
noncomputable def start3 (n:Nat) (vs:List V3):S3:=vs.map (fun x=>some (.v x))++List.replicate (n - vs.length) none
noncomputable def O3.res:O3→Res Vl
 | .nx _ h=> .ok (.v .non) h
 | .rt r h=> .ok r h
 | .ex x h=> .ex x h
 | _=> .no
def fun3 (k n:Nat) (b:D3):F3:=fun vs h=>if vs.length=k then (b (start3 n vs) h).res else .no
def zzw (κ:Kx) (N:Addr→Prop) (O:Addr→Prop) (β:List (Option Addr)) (h:H3) (H:Hp):Vl→V→Prop
 | .v x,v=>RelH κ O β h H∧Rep κ β O H x v
 | .m c,v=> ∃p,v= .ref p∧RelH κ (fun a=>a=p∨O a) β h H∧CellR κ β (fun a=>a=p∨O a) H c p∧N p∧¬O p
def FOut (κ:Kx) (E:XK) (O:Addr→Prop) (β:List (Option Addr)) (H:Hp) (Q:VK):Res Vl→Prop
 | .ok r h'=> ∀β' v H',Ext No β H β' H'→zzw κ (Nw H) O β' h' H' r v→Q v H'
 | .ex x h'=> ∀β' H',Ext No β H β' H'→RelH κ O β' h' H'→XOk κ E x H'
 | .no=>False
def zB (κ:Kx) (k:Nat) (f:F3):Sp:=fun vs H Q E=> ∃O β vs3 h3,vs.length=k∧RelH κ O β h3 H∧Reps κ β O H vs3 vs∧FOut κ E O β H Q (f vs3 h3)
section
variable {X:Cx} {κ:Kx} {E:XK} {F F1 F2 F':Fr} {σ σ':L2.St} {H H1 H2 H':Hp} {Q:VK} {p:Addr} {e a b o:Expr} {pos apos np:Pos} {i:Nat} {D:Ends}
theorem qU {a:Addr} {n:Nat}:some a∉List.replicate n (none:Option Addr):=fun h=>by cases (List.mem_replicate.mp h).2
theorem znc {n:Nat} {vs3:List V3} {i:Nat} {x:Vl} (h:(start3 n vs3)[i]? =some (some x)): ∃y,vs3[i]? =some y∧x= .v y:=by
 unfold start3 at h
 by_cases hi:i < vs3.length
 ·rw [List.getElem?_append_left (by simpa using hi),List.getElem?_map] at h
  cases q:vs3[i]? with
  | none=>rw [q] at h;cases h
  | some y=>rw [q] at h;cases h;exact ⟨y,rfl,rfl⟩
 ·rw [List.getElem?_append_right (by simpa using hi)] at h
  have:=List.mem_replicate.mp (List.mem_of_getElem? h)
  cases this.2
theorem zpf {O:Addr→Prop} {β:List (Option Addr)} {vs3:List V3} {vs:List V} {h3:H3} {N:List Str} (rh:RelH κ O β h3 H) (rv:Reps κ β O H vs3 vs) (hN:vs.length≤N.length):
  Rel κ ⟨O,[],β,List.replicate N.length none,start3 N.length vs3,h3⟩ (L2.start N vs) H:=by
 have hO: ∀a,(⟨O,[],β,List.replicate N.length none,start3 N.length vs3,h3⟩:Fr).O a→O a:=fun a ha=>by
  rcases ha with z | z | z
  ·cases z
  ·exact absurd z qU
  ·exact z
 have hl:=rv.length
 refine ⟨rh.sub hO,?_,?_,fun i j a h=>?_,fun a ha=>absurd ha qU,fun a ha=>absurd ha qU,fun a ha=>(by cases ha),List.nodup_nil,fun i x hx=>?_⟩
 ·show (start3 N.length vs3).length=_
  unfold start3 L2.start
  simp only [List.length_append,List.length_map,List.length_replicate];omega
 ·show (List.replicate N.length (none:Option Addr)).length=(start3 N.length vs3).length
  unfold start3
  simp only [List.length_append,List.length_map,List.length_replicate];omega
 ·exact absurd (List.mem_of_getElem? h) qU
 ·obtain ⟨y,hy,rfl⟩:=znc hx
  obtain ⟨v,hv,r⟩:=rv.get hy
  refine ⟨v,?_,Rep.sub hO r⟩
  unfold L2.start
  have hi:i < vs.length:=(List.getElem?_eq_some_iff.mp hv).1
  rw [List.getElem?_append_left (by simpa using hi),List.getElem?_map,hv];rfl
theorem yA {P:Program} {w:World} {K:PySem.W.Frag} {mg:Str→Option Value} {base:Heap} {x qual:Str} {st:Stmt} {f:Addr} {fd:FuncData} {N ps:List Str} {k:Nat} {b:D3} (Fn:Fun K x qual st f fd) (S:FnScope N ps (zT st))
  (hb: ∀(cdv:Value) (A:Around) (outer:List Env) (s:Shared) (H:Hp) (E:XK),Room k (A.deeper (envOfC qual (zT st) s.heap.objs.size f cdv))→
   yR (cxOf (XT P w) P w K mg base N qual (zT st) f cdv A outer s H E) (zeo st) (zx κ E b)):FnOk P w K mg base (XT P w) (k+1) f fd ps (zB κ ps.length (fun3 ps.length N.length b)):=by
 refine Fn.okX S (fun vs H Q E h=>?_) fun cdv A outer s H vs Q E hr h=>?_
 ·obtain ⟨_,_,_,_,h,_⟩:=h;exact h
 ·obtain ⟨O,β,vs3,h3,hl,rh,rv,o⟩:=h
  have hpl:ps.length≤N.length:=by have:=congrArg List.length S.pre;rw [List.length_take] at this;omega
  have rel:=zpf (N:=N) rh rv (by omega)
  refine ⟨zx κ E b,hb cdv A outer s H E hr,_,rel,rfl,?_⟩
  unfold fun3 at o
  rw [if_pos (by rw [rv.length];exact hl)] at o
  generalize hF:(⟨O,[],β,List.replicate N.length none,start3 N.length vs3,h3⟩:Fr)=F0 at rel
  have e0:F0.s=start3 N.length vs3∧F0.h=h3∧F0.β=β∧F0.Oi=O∧∀a,some a∉F0.l:=by subst hF;exact ⟨rfl,rfl,rfl,rfl,fun a=>qU⟩
  obtain ⟨es,eh,eb,eo,el⟩:=e0
  rw [es,eh]
  have ext: ∀{F':Fr} {H':Hp},SExt F0 H F' H'→Ext No β H F'.β H':=fun {F' H'} se=>⟨fun a u h n _=>se.ext.keep a u h (by rw [eb];exact n) (el a),by rw [←eb];exact se.ext.len,fun i a hi h=>by
   have:=se.ext.bet i a (by rw [eb];exact hi) h
   rw [eb] at this;exact this,se.ext.there,fun i a hi h=>se.ext.nwb i a (by rw [eb];exact hi) h⟩
  have hO: ∀{F':Fr} {H':Hp},SExt F0 H F' H'→∀a,O a→F'.O a:=fun {F' H'} se a ha=> .inr (.inr (by rw [se.oi,eo];exact ha))
  cases q:b (start3 N.length vs3) h3 with
  | nx s1 h1=>
   rw [q] at o
   exact fun F' σ' H' se _ h' r'=>o F'.β .non H' (ext se) ⟨by rw [←h'];exact r'.heap.sub (hO se),.non⟩
  | rt r h1=>
   rw [q] at o
   intro F' σ' v H' se h' p
   refine o F'.β v H' (ext se) ?_
   cases r with
   | v x=>exact ⟨by rw [←h'];exact p.1.heap.sub (hO se),Rep.sub (hO se) p.2⟩
   | m c=>
    obtain ⟨p,h1,h2,h3',h4⟩:=p
    have hs: ∀a,a=p∨O a→(F'.with p).O a:=fun a ha=>ha.elim (fun z=> .inl (by rw [z];exact List.mem_cons_self)) fun z=>Fr.O_with (hO se a z)
    refine ⟨p,h1,by rw [←h'];exact h2.heap.sub hs,h3'.sub hs,h4.elim (fun z=>absurd z (el p)) id,fun z=>h2.apart (hO se p z)⟩
  | bk s1 h1=>rw [q] at o;exact (show False from o).elim
  | ct s1 h1=>rw [q] at o;exact (show False from o).elim
  | no=>rw [q] at o;exact o
  | ex x h1=>
   rw [q] at o
   intro F' H' se r'
   exact o F'.β H' (ext se) (by rw [se.oi,eo] at r';exact r')
theorem Rel.nextNew {β':List (Option Addr)} {h':H3} (r:Rel κ F σ H) (e:Ext No F.β H β' H') (rh:RelH κ (fun a=>a=p∨F.O a) β' h' H') (hp:H p=none):Rel κ ((F.to β' h').with p) σ H':=by
 have n2: ¬F.O p:=(r.heap.off_new hp).2
 have ho: ∀a,((F.to β' h').with p).O a→a=p∨F.O a:=fun a ha=>by
  rcases ha with z | z
  ·rcases List.mem_cons.mp z with z | z
   ·exact .inl z
   ·exact .inr (.inl z)
  ·exact .inr (.inr z)
 have hO: ∀a u,H a=some u→¬F.O a→¬((F.to β' h').with p).O a:=fun a u ha n z=>(ho a z).elim (fun w=>by subst w;rw [hp] at ha;cases ha) n
 refine ⟨rh.sub ho,r.slen,r.llen,r.linj,fun a ha z=>?_,r.lo,fun a ha z=>?_,List.nodup_cons.mpr ⟨fun z=>n2 (.inl z),r.tn⟩,fun i x q=>?_⟩
 ·rcases List.mem_cons.mp z with z | z
  ·subst z;exact n2 (.inr (.inl ha))
  ·exact r.lt a ha z
 ·rcases List.mem_cons.mp ha with h | h
  ·subst h;exact n2 (.inr (.inr z))
  ·exact r.to a h z
 ·obtain ⟨v,h1,h2⟩:=r.slot i x q
  refine ⟨v,h1,?_⟩
  cases x with
  | v x=>exact Rep.ext e (fun _ z=>z.elim) hO h2
  | m c=>
   obtain ⟨a,a1,a2,a3⟩:=h2
   have ha:F.O a:= .inr (.inl (List.mem_of_getElem? a1))
   exact ⟨a,a1,a2,a3.ext e (fun _ z=>z.elim) hO fun u hu=>(e.keep a u hu (r.heap.off a ha) fun z=>z).1⟩
theorem FOut.of {r:Res Vl} (rel:Rel κ F σ H) (o:Out κ E (kE κ) F σ H Q r):FOut κ E F.O F.β H Q r:=by
 cases r with
 | no=>exact o
 | ex x h'=>exact fun β' H' e r'=>o β' H' e (r'.sub fun a ha=> .inr (.inr ha))
 | ok r h'=>
  intro β' v H' e q
  refine o β' v H' e ?_
  cases r with
  | v x=>exact ⟨rel.next e q.1,q.2⟩
  | m c=>
   obtain ⟨p,h1,h2,h3,h4,h5⟩:=q
   have ho: ∀a,((F.to β' h').with p).O a→a=p∨F.O a:=fun a ha=>by
    rcases ha with z | z
    ·rcases List.mem_cons.mp z with z | z
     ·exact .inl z
     ·exact .inr (.inl z)
    ·exact .inr (.inr z)
   exact ⟨p,h1,rel.nextNew e h2 h4,h3.sub ho,h4⟩
def eCall (f:F3) (a:A3):E3:=fun s h=>(a s h).bind fun fs h1=>match vals3 fs with
 | some vs=>f vs h1
 | none=> .no
def zE (f:F3) (k:Nat):Prop:=∀vs h,vs.length≠k→f vs h= .no
theorem zN {k n:Nat} {b:D3}:zE (fun3 k n b) k:=fun vs h e=>if_neg e
theorem zt2 {f:F3} {t:A3} {k:Nat} (hf:zE f k) (h:zf κ E (eCall f t) σ H Q):zwr (zB κ k f) [] E (zV κ E t) σ H Q:=by
 obtain ⟨F,rel,o⟩:=h
 refine (zY (K:=kA κ) zS rel o).mono fun vs H1 ⟨β1,h1,fs,e1,⟨r1,rf1⟩,o1⟩=>?_
 cases q:vals3 fs with
 | none=>simp only [q] at o1;exact o1.elim
 | some xs=>
  simp only [q] at o1
  have hr:=zdm rf1 q
  rw [List.append_nil]
  refine ⟨F.O,β1,xs,h1,?_,r1.heap,hr,FOut.of r1 o1⟩
  refine Classical.byContradiction fun n=>?_
  rw [hf xs h1 (by rw [hr.length];exact n)] at o1
  exact o1
theorem yg {x:Str} {es:List Expr} {f:F3} {t:A3} {k:Nat} {fa:Addr} {fd:FuncData} {ps:List Str} {n:Nat} (hf:zE f n) (Fk:FnOk X.prog X.w X.K X.mg X.base (XT X.prog X.w) k fa fd ps (zB κ n f)) (hr:Room k X.A) (hg:Gl X x) (hm:X.mg x=some (.ref fa)) (hk:PySem.W.keepIn X.K (.ref fa)=true) (hb:Binds X.K fd ps []) (hx:zef (XT X.prog X.w) X E)
 (ha:PA X (e::es) (zV κ E t)) (hdb:(x==("__debug__" :Str))=false:=by decide) (he:starEach (e::es) X.env=(false,eval e X.env)::starEach es X.env:=by rfl) (hpl:(backTo pos (starEach es X.env)).any (·.1)=false:=by rfl):
 PE X (.Call (.Name x np) (e::es) [] pos) (zf κ E (eCall f t)):=yv (zuw Fk hr hg hm hk hb .nil hx ha hdb he hpl) fun _ _ _ h=>zt2 hf h
theorem zyy:zef (XT X.prog X.w) X E0:=fun pins σ H s e s' I h=>by
 obtain ⟨_,_,_,_,_,_,_,_,_,_,_,_,_,_,_,q⟩:=h
 exact q.elim
end
section
variable {X:Cx} {κ:Kx} {E:XK} {F:Fr} {σ:L2.St} {H H':Hp} {Q:VK} {p:Addr} {pos:Pos} {i:Nat}
noncomputable def oI (g:Int→Int→Option V3):F2:=fun _ _ x y=>match x,y with
 | .x (.int i),.x (.int j)=>(g i j).map .v
 | _,_=>none
theorem zot {g:Int→Int→Option V3} {s:S3} {h:H3} {x y:Rf} {z:Vl} (e:oI g s h x y=some z): ∃i j w,x= .x (.int i)∧y= .x (.int j)∧g i j=some w∧z= .v w:=by
 unfold oI at e
 split at e
 ·rename_i i j
  cases q:g i j with
  | none=>rw [q] at e;cases e
  | some w=>rw [q] at e;cases e;exact ⟨i,j,w,rfl,rfl,q,rfl⟩
 ·cases e
theorem zfk {gv:Int→Int→V} {g:Int→Int→Option V3} (hg: ∀i j z,g i j=some z→∀β O H,Rep κ β O H z (gv i j)):OpSim κ (qh gv) (oI g):=fun F σ H x y z v w Q rel rx ry e k=>by
 obtain ⟨i,j,u,rfl,rfl,q,rfl⟩:=zot e
 cases (show Rep κ F.β F.O H (.int i) v from rx)
 cases (show Rep κ F.β F.O H (.int j) w from ry)
 exact ⟨i,j,rfl,rfl,k _ H Ext.refl ⟨rel,hg i j u q _ _ _⟩⟩
theorem zl8 {C:Int→Int→Prop} {gv:Int→Int→V} {g:Int→Int→Option V3} (hg: ∀i j z,g i j=some z→C i j∧∀β O H,Rep κ β O H z (gv i j)):OpSim κ (rI C gv) (oI g):=fun F σ H x y z v w Q rel rx ry e k=>by
 obtain ⟨i,j,u,rfl,rfl,q,rfl⟩:=zot e
 cases (show Rep κ F.β F.O H (.int i) v from rx)
 cases (show Rep κ F.β F.O H (.int j) w from ry)
 exact ⟨i,j,rfl,rfl,(hg i j u q).1,k _ H Ext.refl ⟨rel,(hg i j u q).2 _ _ _⟩⟩
instance {i j:Int}:Decidable (CMul i j):=inferInstanceAs (Decidable (_∨_))
instance {i j:Int}:Decidable (CDiv i j):=inferInstanceAs (Decidable (_∧_))
instance {i j:Int}:Decidable (CPow i j):=inferInstanceAs (Decidable (_∧_))
def zm4:F2:=oI fun i j=>some (.int (i+j))
def yd:F2:=oI fun i j=>some (.int (i - j))
def zvl:F2:=oI fun i j=>if CMul i j then some (.int (i*j)) else none
def ya:F2:=oI fun i j=>if CDiv i j then some (.int (i / j)) else none
def zF:F2:=oI fun i j=>if 0 < j then some (.int (i % j)) else none
def oPow:F2:=oI fun i j=>if CPow i j then some (.int (i ^ j.toNat)) else none
def oShr:F2:=oI fun i j=>if 0≤j then some (.int (i / 2 ^ j.toNat)) else none
def zzz:F2:=oI fun i j=>some (.int (Builtin.bitAnd i j))
def oLt:F2:=oI fun i j=>some (.bl (decide (i < j)))
def qt:F2:=oI fun i j=>some (.bl (decide (i≤j)))
def oGt:F2:=oI fun i j=>some (.bl (decide (j < i)))
def oGe:F2:=oI fun i j=>some (.bl (decide (j≤i)))
theorem sim_addI:OpSim κ (qh fun i j=> .int (i+j)) zm4:=zfk fun i j z e=>by cases e;exact fun _ _ _=> .int _
theorem zde:OpSim κ (qh fun i j=> .int (i - j)) yd:=zfk fun i j z e=>by cases e;exact fun _ _ _=> .int _
theorem zl3:OpSim κ (qh fun i j=> .bl (decide (i < j))) oLt:=zfk fun i j z e=>by cases e;exact fun _ _ _=> .bl _
theorem zei:OpSim κ (qh fun i j=> .bl (decide (i≤j))) qt:=zfk fun i j z e=>by cases e;exact fun _ _ _=> .bl _
theorem zld:OpSim κ (qh fun i j=> .bl (decide (j < i))) oGt:=zfk fun i j z e=>by cases e;exact fun _ _ _=> .bl _
theorem zs6:OpSim κ (qh fun i j=> .bl (decide (j≤i))) oGe:=zfk fun i j z e=>by cases e;exact fun _ _ _=> .bl _
theorem qC {c:Prop} [Decidable c] {α:Type} {x z:α} (e:(if c then some x else none)=some z):c∧x=z:=by
 by_cases h:c
 ·rw [if_pos h] at e;exact ⟨h,Option.some.inj e⟩
 ·rw [if_neg h] at e;cases e
theorem sim_mulI:OpSim κ (rI CMul fun i j=> .int (i*j)) zvl:=zl8 fun i j z e=>by obtain ⟨h,rfl⟩:=qC e;exact ⟨h,fun _ _ _=> .int _⟩
theorem zc2:OpSim κ (rI CDiv fun i j=> .int (i / j)) ya:=zl8 fun i j z e=>by obtain ⟨h,rfl⟩:=qC e;exact ⟨h,fun _ _ _=> .int _⟩
theorem yP:OpSim κ (rI (fun _ j=>0 < j) fun i j=> .int (i % j)) zF:=zl8 fun i j z e=>by obtain ⟨h,rfl⟩:=qC e;exact ⟨h,fun _ _ _=> .int _⟩
theorem zvn:OpSim κ (rI CPow fun i j=> .int (i ^ j.toNat)) oPow:=zl8 fun i j z e=>by obtain ⟨h,rfl⟩:=qC e;exact ⟨h,fun _ _ _=> .int _⟩
def qq (f g:F2):F2:=fun s h x y=>match f s h x y with
 | some z=>some z
 | none=>g s h x y
theorem OpSim.or {r r':R2} {f g:F2} (hf:OpSim κ r f) (hg:OpSim κ r' g):OpSim κ (fun x y H Q=>r x y H Q∨r' x y H Q) (qq f g):=fun F σ H x y z v w Q rel rx ry e k=>by
 unfold qq at e
 cases q:f F.s F.h x y with
 | some u=>rw [q] at e;cases e;exact .inl (hf F σ H x y _ v w Q rel rx ry q k)
 | none=>rw [q] at e;exact .inr (hg F σ H x y z v w Q rel rx ry e k)
noncomputable def zqp:F2:=fun _ _ x y=>match x,y with
 | .x (.str i),.x (.str j)=>if i.length+j.length≤sizeLine then some (.v (.str (i++j))) else none
 | _,_=>none
theorem sim_addS:OpSim κ (fun x y H Q=> ∃i j,x= .str i∧y= .str j∧i.length+j.length≤sizeLine∧Q (.str (i++j)) H) zqp:=fun F σ H x y z v w Q rel rx ry e k=>by
 unfold zqp at e
 split at e
 ·rename_i i j
  obtain ⟨h,rfl⟩:=qC e
  cases (show Rep κ F.β F.O H (.str i) v from rx)
  cases (show Rep κ F.β F.O H (.str j) w from ry)
  exact ⟨i,j,rfl,rfl,h,k _ H Ext.refl ⟨rel,.str _⟩⟩
 ·cases e
def rdm (s:S3) (h:H3):Rf→Option (List V3)
 | .x (.scr _)=>none
 | f=>rdl s h f
theorem zgm {f:Rf} {v:V} {xs:List V3} (rel:Rel κ F σ H) (r:RfR κ F H f v) (e:rdm F.s F.h f=some xs): ∃a ys,v= .ref a∧H a=some (.lst ys)∧Reps κ F.β F.O H xs ys:=by
 cases f with
 | s i=>
  have e:rdl F.s F.h (.s i)=some xs:=e
  obtain ⟨a,c,h1,h2,h3,h4⟩:=r
  simp only [rdl,h3] at e
  cases c <;> simp at e
  subst e
  obtain ⟨ys,h5,h6⟩:=h4
  exact ⟨a,ys,h2,h5,h6⟩
 | x y=>
  cases y <;> simp [rdm,rdl] at e
  case lst zs=>
   subst e
   cases r with
   | lst h1 h2 h3 h4=>exact ⟨_,_,rfl,h1,h4⟩
  case loc n=>
   cases r with
   | loc h1 h2=>
    cases q:F.h[n]? with
    | none=>rw [q] at e;cases e
    | some c=>
     rw [q] at e
     cases c <;> simp at e
     subst e
     rcases rel.heap.cell n _ q with z | ⟨a,ha,ys,h5,h6⟩
     ·cases z
     ·exact ⟨a,ys,h2 a ha,h5,h6⟩
def oCat:F2:=fun s h x y=>match rdm s h x,rdm s h y with
 | some xs,some ys=>if xs.length+ys.length≤sizeLine then some (.m (.lst (xs++ys))) else none
 | _,_=>none
theorem zuv:OpSim κ rCat oCat:=fun F σ H x y z v w Q rel rx ry e k=>by
 unfold oCat at e
 cases q1:rdm F.s F.h x with
 | none=>rw [q1] at e;cases e
 | some xs=>
  cases q2:rdm F.s F.h y with
  | none=>rw [q1,q2] at e;cases e
  | some ys=>
   rw [q1,q2] at e
   obtain ⟨h,rfl⟩:=qC e
   obtain ⟨a,us,rfl,ha,ra⟩:=zgm rel rx q1
   obtain ⟨b,ws,rfl,hb,rb⟩:=zgm rel ry q2
   exact ⟨a,b,us,ws,rfl,rfl,ha,hb,by rw [←ra.length,←rb.length];exact h,fun p hp=>k _ _ (yY hp) (Post.lst rel hp (ra.append rb))⟩
def zi:F2:=qq zm4 (qq zqp oCat)
theorem z9:OpR X (binaryOp .Add) (fun x y H Q=>(qh fun i j=> .int (i+j)) x y H Q∨((fun x y H Q=> ∃i j,x= .str i∧y= .str j∧i.length+j.length≤sizeLine∧Q (.str (i++j)) H) x y H Q∨rCat x y H Q)):=op_add.or (op_add_str.or zyr)
theorem z4:OpSim κ (fun x y H Q=>(qh fun i j=> .int (i+j)) x y H Q∨((fun x y H Q=> ∃i j,x= .str i∧y= .str j∧i.length+j.length≤sizeLine∧Q (.str (i++j)) H) x y H Q∨rCat x y H Q)) zi:=sim_addI.or (sim_addS.or zuv)
def oRep:F2:=fun s h x y=>match rdm s h x,y with
 | some xs,.x (.int k)=>if -(2 ^ 63)≤k∧k < 2 ^ 63∧xs.length*k.toNat≤sizeLine then some (.m (.lst (List.replicate k.toNat xs).flatten)) else none
 | _,_=>none
theorem zt8:OpSim κ rRep oRep:=fun F σ H x y z v w Q rel rx ry e k=>by
 unfold oRep at e
 split at e
 ·rename_i xs n q
  obtain ⟨⟨h1,h2,h3⟩,rfl⟩:=qC e
  obtain ⟨a,us,rfl,ha,ra⟩:=zgm rel rx q
  cases (show Rep κ F.β F.O H (.int n) w from ry)
  exact ⟨a,n,us,rfl,rfl,ha,h1,h2,by rw [←ra.length];exact h3,fun p hp=>k _ _ (yY hp) (Post.lst rel hp (ra.rep _))⟩
 ·cases e
def yc:F2:=qq zvl oRep
theorem zdb:OpR X (binaryOp .Mult) (fun x y H Q=>(rI CMul fun i j=> .int (i*j)) x y H Q∨rRep x y H Q):=op_mul.or zws
theorem zdc:OpSim κ (fun x y H Q=>(rI CMul fun i j=> .int (i*j)) x y H Q∨rRep x y H Q) yc:=sim_mulI.or zt8
theorem Reps.atI {xs:List V3} {ys:List V} {i:Int} {x:V3} (r:Reps κ F.β F.O H xs ys) (e:atI xs i=some x): ∃y,L2.atI ys i=some y∧Rep κ F.β F.O H x y:=by
 unfold L2.atI at e ⊢
 rw [←r.length]
 cases q:qf xs.length i with
 | none=>rw [q] at e;cases e
 | some j=>
  rw [q] at e
  exact r.get e
def oIxL:F2:=fun s h x y=>match y with
 | .x (.int i)=>match rdl s h x with
  | some xs=>(atI xs i).map .v
  | none=>none
 | _=>none
def oIxT:F2:=fun _ _ x y=>match x,y with
 | .x (.tup xs),.x (.int i)=>(atI xs i).map .v
 | _,_=>none
def oIxS:F2:=fun _ _ x y=>match x,y with
 | .x (.str z),.x (.int i)=>if z.length≤sizeLine then (atI z.cps.toList i).map fun c=> .v (.str ⟨#[c]⟩) else none
 | _,_=>none
theorem sim_ixL:OpSim κ (rIxL κ.K) oIxL:=fun F σ H x y z v w Q rel rx ry e k=>by
 unfold oIxL at e
 split at e
 ·rename_i i
  cases (show Rep κ F.β F.O H (.int i) w from ry)
  cases q:rdl F.s F.h x with
  | none=>rw [q] at e;cases e
  | some xs=>
   rw [q] at e
   cases q2:atI xs i with
   | none=>simp only [q2] at e;cases e
   | some u=>
    simp only [q2] at e;cases e
    obtain ⟨a,us,rfl,sq,ra⟩:=zfn rel rx q
    obtain ⟨y,hy,ry'⟩:=Reps.atI ra q2
    exact ⟨a,us,i,y,rfl,rfl,sq,hy,k _ H Ext.refl ⟨rel,ry'⟩⟩
 ·cases e
theorem sim_ixT:OpSim κ (rIxT κ.K) oIxT:=fun F σ H x y z v w Q rel rx ry e k=>by
 unfold oIxT at e
 split at e
 ·rename_i xs i
  cases (show Rep κ F.β F.O H (.int i) w from ry)
  cases q2:atI xs i with
  | none=>rw [q2] at e;cases e
  | some u=>
   rw [q2] at e;cases e
   cases (show Rep κ F.β F.O H (.tup xs) v from rx) with
   | tup h1 h2 h3 h4=>
    obtain ⟨y,hy,ry'⟩:=Reps.atI h4 q2
    exact ⟨_,_,i,y,rfl,rfl,.of h1,hy,k _ H Ext.refl ⟨rel,ry'⟩⟩
 ·cases e
theorem zut:OpSim κ rIxS oIxS:=fun F σ H x y z v w Q rel rx ry e k=>by
 unfold oIxS at e
 split at e
 ·rename_i zz i
  cases (show Rep κ F.β F.O H (.int i) w from ry)
  cases (show Rep κ F.β F.O H (.str zz) v from rx)
  obtain ⟨h,e⟩:zz.length≤sizeLine∧((atI zz.cps.toList i).map fun c=>Vl.v (.str ⟨#[c]⟩))=some z:=by
   by_cases h:zz.length≤sizeLine
   ·rw [if_pos h] at e;exact ⟨h,e⟩
   ·rw [if_neg h] at e;cases e
  cases q2:atI zz.cps.toList i with
  | none=>rw [q2] at e;cases e
  | some c=>
   rw [q2] at e;cases e
   exact ⟨zz,i,c,rfl,rfl,h,q2,k _ H Ext.refl ⟨rel,.str _⟩⟩
 ·cases e
def zr:F2:=qq oIxT (qq oIxL oIxS)
theorem zJ (hK:X.K=κ.K):IxR X (fun x y H Q=>rIxT κ.K x y H Q∨(fun x y H Q=>rIxL κ.K x y H Q∨rIxS x y H Q) x y H Q):=by
 rw [←hK];exact ix_tup.or (ix_list.or zw6)
theorem zI:OpSim κ (fun x y H Q=>rIxT κ.K x y H Q∨(fun x y H Q=>rIxL κ.K x y H Q∨rIxS x y H Q) x y H Q) zr:=sim_ixT.or (sim_ixL.or zut)
noncomputable def oIsN (neg:Bool):F2:=fun _ _ x y=>match x,y with
 | .x .non,.x .non=>some (.v (.bl (!neg)))
 | .x (.loc _),_=>none
 | .x _,.x .non=>some (.v (.bl neg))
 | .s _,.x .non=>some (.v (.bl neg))
 | _,_=>none
theorem zx1 {x:V3} {v:V} (r:Rep κ F.β F.O H x v) (h:x≠ .non) (h2: ∀n,x≠ .loc n):v≠ .non:=by
 cases r <;> first | (intro z;cases z;done) | (exact absurd rfl h) | (exact absurd rfl (h2 _))
theorem zi7 {neg:Bool} {s:S3} {h:H3} {x y:Rf} {z:Vl} {v w:V} (e:oIsN neg s h x y=some z) (rx:RfR κ F H x v) (ry:RfR κ F H y w):w= .non∧z= .v (.bl (if neg then !decide (v= .non) else decide (v= .non))):=by
 unfold oIsN at e
 split at e
 ·cases e
  cases (show Rep κ F.β F.O H .non v from rx)
  cases (show Rep κ F.β F.O H .non w from ry)
  exact ⟨rfl,by cases neg <;> simp⟩
 ·cases e
 ·rename_i x h1 h2
  cases e
  cases (show Rep κ F.β F.O H .non w from ry)
  have hv:v≠ .non:=zx1 (show Rep κ F.β F.O H x v from rx) (fun z=>by subst z;exact h1 rfl) (fun n z=>by subst z;exact h2 n rfl)
  exact ⟨rfl,by cases neg <;> simp [hv]⟩
 ·cases e
  cases (show Rep κ F.β F.O H .non w from ry)
  obtain ⟨a,c,_,h2,_⟩:=rx
  have hv:v≠ .non:=by rw [h2];intro z;cases z
  exact ⟨rfl,by cases neg <;> simp [hv]⟩
 ·cases e
theorem zta:OpSim κ (fun x y H Q=>y= .non∧Q (.bl (decide (x= .non))) H) (oIsN false):=fun F σ H x y z v w Q rel rx ry e k=>by
 obtain ⟨h1,rfl⟩:=zi7 e rx ry
 exact ⟨h1,k _ H Ext.refl ⟨rel,.bl _⟩⟩
theorem zq9:OpSim κ (fun x y H Q=>y= .non∧Q (.bl (!decide (x= .non))) H) (oIsN true):=fun F σ H x y z v w Q rel rx ry e k=>by
 obtain ⟨h1,rfl⟩:=zi7 e rx ry
 exact ⟨h1,k _ H Ext.refl ⟨rel,.bl _⟩⟩
end
inductive K3 where
 | f (a:V) | l (xs:List V3) | t (xs:List V3) | o
noncomputable def qg (h:H3):V3→K3
 | .non=> .f .non
 | .bl b=> .f (.bl b)
 | .int i=> .f (.int i)
 | .str x=> .f (.str x)
 | .lst xs=> .l xs
 | .tup xs=> .t xs
 | .loc n=>match h[n]? with
  | some (.lst xs)=> .l xs
  | _=> .o
 | _=> .o
noncomputable def qc (f:V3→V3→Option Bool):List V3→List V3→Option Bool
 | x::xs,y::ys=>match f x y,qc f xs ys with
  | some a,some b=>some (a && b)
  | _,_=>none
 | _,_=>some true
noncomputable def yi (h:H3):Nat→V3→V3→Option Bool
 | 0,x,y=>match qg h x,qg h y with
  | .f a,.f b=>some (eqV a b)
  | _,_=>none
 | n+1,x,y=>match qg h x,qg h y with
  | .f a,.f b=>some (eqV a b)
  | .l xs,.l ys=>if xs.length=ys.length then qc (yi h n) xs ys else some false
  | .t xs,.t ys=>(qc (yi h n) xs ys).map (· && xs.length==ys.length)
  | .o,_=>none
  | _,.o=>none
  | _,_=>some false
section
variable {X:Cx} {κ:Kx} {E:XK} {F:Fr} {σ:L2.St} {H H':Hp} {Q:VK} {p:Addr} {pos:Pos} {i:Nat}
theorem zhk {f:V3→V3→Option Bool}: ∀{xs ys:List V3} {b:Bool},qc f xs ys=some b→(∀(j:Nat) (x y:V3),xs[j]? =some x→ys[j]? =some y→∃c,f x y=some c)∧b=(List.range (min xs.length ys.length)).all fun j=>((xs[j]?).bind fun x=>(ys[j]?).bind fun y=>f x y).getD false
 | [],ys,b,e=>by
  unfold qc at e;cases e
  exact ⟨fun j x y h=>by simp at h,by simp⟩
 | x::xs,[],b,e=>by
  unfold qc at e;cases e
  exact ⟨fun j x y _ h=>by simp at h,by simp⟩
 | x::xs,y::ys,b,e=>by
  unfold qc at e
  cases q1:f x y with
  | none=>simp only [q1] at e;cases e
  | some a=>
   cases q2:qc f xs ys with
   | none=>simp only [q1,q2] at e;cases e
   | some c=>
    simp only [q1,q2] at e;cases e
    obtain ⟨h1,h2⟩:=zhk q2
    refine ⟨fun j x' y' hx hy=>?_,?_⟩
    ·cases j with
     | zero=>simp at hx hy;subst hx;subst hy;exact ⟨a,q1⟩
     | succ j=>exact h1 j x' y' (by simpa using hx) (by simpa using hy)
    ·rw [List.length_cons,List.length_cons,Nat.add_min_add_right,List.range_succ_eq_map,List.all_cons,List.all_map]
     simp only [List.getElem?_cons_zero,Option.bind_some,q1,Option.getD_some,h2,Function.comp_def,List.getElem?_cons_succ]
theorem zcx {x:V3} {v:V} (rel:RelH κ F.O F.β F.h H) (r:Rep κ F.β F.O H x v):match qg F.h x with
  | .f a=>v=a∧zki a=true
  | .l xs=> ∃a ys,v= .ref a∧H a=some (.lst ys)∧Reps κ F.β F.O H xs ys
  | .t xs=> ∃a ys,v= .ref a∧H a=some (.tup ys)∧Reps κ F.β F.O H xs ys
  | .o=>True:=by
 cases r with
 | lst h1 h2 h3 h4=>exact ⟨_,_,rfl,h1,h4⟩
 | tup h1 h2 h3 h4=>exact ⟨_,_,rfl,h1,h4⟩
 | @loc n v h1 h2=>
  simp only [qg]
  cases q:F.h[n]? with
  | none=>trivial
  | some c=>
   cases c with
   | lst xs=>
    rcases rel.cell n _ q with z | ⟨a,ha,ys,h5,h6⟩
    ·cases z
    ·exact ⟨a,ys,h2 a ha,h5,h6⟩
   | _=>trivial
 | _=>first | exact ⟨rfl,rfl⟩ | trivial
theorem Vals.at {ys:List V} {us:List Value} {j:Nat} {y:V} (r:Vals ys us) (h:j < us.toArray.size) (e:ys[j]? =some y):RelV y us.toArray[j]:=by
 obtain ⟨u,h1,h2⟩:=r.get e
 have:=(List.getElem?_eq_some_iff.mp h1).2
 have e1:us.toArray[j]=u:=by simpa using this
 rw [e1];exact h2
theorem zlp {n:Nat} (ih: ∀{x y:V3} {v:V} {b:Bool},Rep κ F.β F.O H x v→Rep κ F.β F.O H y v→yi F.h n x y=some b→b=true): ∀{xs ys:List V3} {vs:List V} {b:Bool},Reps κ F.β F.O H xs vs→Reps κ F.β F.O H ys vs→qc (yi F.h n) xs ys=some b→b=true:=by
 intro xs
 induction xs with
 | nil=>intro ys vs b _ _ e;unfold qc at e;cases e;rfl
 | cons x xs ihx=>
  intro ys vs b r1 r2 e
  cases r1 with
  | cons a1 t1=>
   cases r2 with
   | @cons y _ ys _ a2 t2=>
    unfold qc at e
    cases q1:yi F.h n x y with
    | none=>simp only [q1] at e;cases e
    | some a=>
     cases q2:qc (yi F.h n) xs ys with
     | none=>simp only [q1,q2] at e;cases e
     | some c=>
      simp only [q1,q2] at e;cases e
      rw [ih a1 a2 q1,ihx t1 t2 q2];rfl
theorem zli {a:V} (h:zki a=true):eqV a a=true:=by cases a <;> simp [zki] at h <;> simp [eqV]
theorem zic (rel:RelH κ F.O F.β F.h H): ∀(n:Nat) {x y:V3} {v:V} {b:Bool},Rep κ F.β F.O H x v→Rep κ F.β F.O H y v→yi F.h n x y=some b→b=true
 | 0,x,y,v,b,rx,ry,e=>by
  have kx:=zcx rel rx
  have ky:=zcx rel ry
  unfold yi at e
  cases h1:qg F.h x <;> cases h2:qg F.h y <;> simp only [h1,h2] at e kx ky <;> try cases e
  obtain ⟨e1,e2⟩:=kx
  obtain ⟨e3,_⟩:=ky
  rw [←e1,←e3];rw [←e1] at e2
  exact zli e2
 | n+1,x,y,v,b,rx,ry,e=>by
  have kx:=zcx rel rx
  have ky:=zcx rel ry
  unfold yi at e
  cases h1:qg F.h x <;> cases h2:qg F.h y <;> simp only [h1,h2] at e kx ky <;> try cases e
  case f.f=>
   obtain ⟨e1,e2⟩:=kx
   obtain ⟨e3,_⟩:=ky
   rw [←e1,←e3];rw [←e1] at e2
   exact zli e2
  case f.l=>obtain ⟨e1,e2⟩:=kx;obtain ⟨a,ys,e3,_⟩:=ky;rw [←e1,e3] at e2;cases e2
  case f.t=>obtain ⟨e1,e2⟩:=kx;obtain ⟨a,ys,e3,_⟩:=ky;rw [←e1,e3] at e2;cases e2
  case l.f=>obtain ⟨e1,e2⟩:=ky;obtain ⟨a,ys,e3,_⟩:=kx;rw [←e1,e3] at e2;cases e2
  case t.f=>obtain ⟨e1,e2⟩:=ky;obtain ⟨a,ys,e3,_⟩:=kx;rw [←e1,e3] at e2;cases e2
  case l.t=>obtain ⟨a,ys,e3,h5,_⟩:=kx;obtain ⟨a',ys',e4,h6,_⟩:=ky;rw [e3] at e4;cases e4;rw [h5] at h6;cases h6
  case t.l=>obtain ⟨a,ys,e3,h5,_⟩:=kx;obtain ⟨a',ys',e4,h6,_⟩:=ky;rw [e3] at e4;cases e4;rw [h5] at h6;cases h6
  case l.l xs ys=>
   obtain ⟨a,us,e3,h5,r5⟩:=kx
   obtain ⟨a',us',e4,h6,r6⟩:=ky
   rw [e3] at e4;cases e4
   rw [h5] at h6;cases h6
   rw [if_pos (by rw [r5.length,r6.length])] at e
   exact zlp (fun a b c=>zic rel n a b c) r5 r6 e
  case t.t xs ys=>
   obtain ⟨a,us,e3,h5,r5⟩:=kx
   obtain ⟨a',us',e4,h6,r6⟩:=ky
   rw [e3] at e4;cases e4
   rw [h5] at h6;cases h6
   cases q:qc (yi F.h n) xs ys with
   | none=>rw [q] at e;cases e
   | some c=>
    rw [q] at e;cases e
    rw [zlp (fun a b c=>zic rel n a b c) r5 r6 q,r5.length,r6.length]
    simp
theorem zpw {s:Shared} {a c:V} {v u:Value} {A:Around} (r1:RelV a v) (r2:RelV c u) (f1:zki a=true) (f2:zki c=true):SeqAt.RcAt A s v u (eqV a c)∧SeqAt.RcNeAt A s v u (!eqV a c):=by
 cases a with
 | non=>
  cases r1
  cases c with
  | non=>cases r2;exact ⟨.none_none,.none_none⟩
  | bl c=>cases r2;exact ⟨.none_bool _,.none_bool _⟩
  | int c=>obtain ⟨tr2,rfl⟩:=r2;exact ⟨.none_int _ _,.none_int _ _⟩
  | str c=>obtain ⟨tr2,rfl⟩:=r2;exact ⟨.none_str _ _,.none_str _ _⟩
  | _=>exact absurd (show false=true from f2) Bool.false_ne_true
 | bl a=>
  cases r1
  cases c with
  | non=>cases r2;exact ⟨.bool_none _,.bool_none _⟩
  | bl c=>cases r2;exact ⟨.bool_bool _ _,.bool_bool _ _⟩
  | int c=>obtain ⟨tr2,rfl⟩:=r2;exact ⟨.bool_int _ _ _,.bool_int _ _ _⟩
  | str c=>obtain ⟨tr2,rfl⟩:=r2;exact ⟨.bool_str _ _ _,.bool_str _ _ _⟩
  | _=>exact absurd (show false=true from f2) Bool.false_ne_true
 | int a=>
  obtain ⟨tr1,rfl⟩:=r1
  cases c with
  | non=>cases r2;exact ⟨.int_none _ _,.int_none _ _⟩
  | bl c=>cases r2;exact ⟨.int_bool _ _ _,.int_bool _ _ _⟩
  | int c=>obtain ⟨tr2,rfl⟩:=r2;exact ⟨.int_int _ _ _ _,.int_int _ _ _ _⟩
  | str c=>obtain ⟨tr2,rfl⟩:=r2;exact ⟨.int_str _ _ _ _,.int_str _ _ _ _⟩
  | _=>exact absurd (show false=true from f2) Bool.false_ne_true
 | str a=>
  obtain ⟨tr1,rfl⟩:=r1
  cases c with
  | non=>cases r2;exact ⟨.str_none _ _,.str_none _ _⟩
  | bl c=>cases r2;exact ⟨.str_bool _ _ _,.str_bool _ _ _⟩
  | int c=>obtain ⟨tr2,rfl⟩:=r2;exact ⟨.str_int _ _ _ _,.str_int _ _ _ _⟩
  | str c=>obtain ⟨tr2,rfl⟩:=r2;exact ⟨.str_str _ _ _ _,.str_str _ _ _ _⟩
  | _=>exact absurd (show false=true from f2) Bool.false_ne_true
 | _=>exact absurd (show false=true from f1) Bool.false_ne_true
def ans (h:H3) (n:Nat) (xs ys:List V3) (j:Nat):Bool:=((xs[j]?).bind fun x=>(ys[j]?).bind fun y=>yi h n x y).getD false
theorem zw8 (rel:RelH κ F.O F.β F.h H): ∀(n:Nat) {pins:List (Addr×Obj)} {s:Shared} {x y:V3} {v' u':V} {v u:Value} {b:Bool} {A:Around},Inv X pins σ H s→Rep κ F.β F.O H x v'→Rep κ F.β F.O H y u'→RelV v' v→RelV u' u→yi F.h n x y=some b→A.units+n < cLine→
  (SeqAt.RcAt A s v u b∧SeqAt.RcNeAt A s v u (!b))∧SeqAt.EqAt A s v u b:=by
 intro n
 induction n with
 | zero=>
  intro pins s x y v' u' v u b A I rx ry rv ru e hu
  have kx:=zcx rel rx
  have ky:=zcx rel ry
  unfold yi at e
  cases h1:qg F.h x <;> cases h2:qg F.h y <;> simp only [h1,h2] at e kx ky <;> try cases e
  obtain ⟨e1,e2⟩:=kx
  obtain ⟨e3,e4⟩:=ky
  subst e1;subst e3
  exact ⟨zpw rv ru e2 e4,zsr rv ru e2 e4⟩
 | succ n ih=>
  intro pins s x y v' u' v u b A I rx ry rv ru e hu
  have kx:=zcx rel rx
  have ky:=zcx rel ry
  have e0:=e
  unfold yi at e
  have items: ∀{xs ys:List V3} {us ws:List V} {vs zs:List Value} {c:Bool},Reps κ F.β F.O H xs us→Reps κ F.β F.O H ys ws→Vals us vs→Vals ws zs→qc (yi F.h n) xs ys=some c→∀j (h1:j < vs.toArray.size) (h2:j < zs.toArray.size),SeqAt.EqAt A.in1 s vs.toArray[j] zs.toArray[j] (ans F.h n xs ys j):=by
   intro xs ys us ws vs zs c r1 r2 v1 v2 q j h1 h2
   have l1:=r1.length;have l2:=r2.length;have l3:=v1.length;have l4:=v2.length
   have h1':j < xs.length:=by rw [l1,l3];simpa using h1
   have h2':j < ys.length:=by rw [l2,l4];simpa using h2
   obtain ⟨y1,hy1,ry1⟩:=r1.get (zy h1')
   obtain ⟨y2,hy2,ry2⟩:=r2.get (zy h2')
   obtain ⟨d,hd⟩:=(zhk q).1 j _ _ (zy h1') (zy h2')
   have ea:ans F.h n xs ys j=d:=by unfold ans;rw [zy h1',zy h2'];simp [hd]
   rw [ea]
   exact (ih I ry1 ry2 (Vals.at v1 h1 hy1) (Vals.at v2 h2 hy2) hd (by show A.units+1+n < cLine;omega)).2
  have wrap: ∀{a a':Addr},v'= .ref a→u'= .ref a'→(SeqAt.RcAt A s v u b∧SeqAt.RcNeAt A s v u (!b))→(SeqAt.RcAt A s v u b∧SeqAt.RcNeAt A s v u (!b))∧SeqAt.EqAt A s v u b:=by
   intro a a' ea ea' h
   refine ⟨h,?_⟩
   subst ea;subst ea'
   cases rv;cases ru
   by_cases z:a=a'
   ·subst z
    rw [zic rel (n+1) rx ry e0]
    exact SeqAt.EqAt.same _
   ·exact SeqAt.EqAt.of_refs z h.1
  cases h1:qg F.h x <;> cases h2:qg F.h y <;> simp only [h1,h2] at e kx ky <;> try cases e
  case succ.f.f.refl=>
   obtain ⟨e1,e2⟩:=kx
   obtain ⟨e3,e4⟩:=ky
   subst e1;subst e3
   exact ⟨zpw rv ru e2 e4,zsr rv ru e2 e4⟩
  case succ.l.l xs ys=>
   obtain ⟨a,us,rfl,h5,r5⟩:=kx
   obtain ⟨a',us',rfl,h6,r6⟩:=ky
   refine wrap rfl rfl ?_
   cases rv;cases ru
   obtain ⟨vs,rv,pl,_⟩:=I.list (SqL.of (K:=X.K) h5)
   obtain ⟨zs,rz,pz,_⟩:=I.list (SqL.of (K:=X.K) h6)
   have l1:=r5.length;have l2:=r6.length;have l3:=rv.length;have l4:=rz.length
   by_cases hl:xs.length=ys.length
   ·rw [if_pos hl] at e
    have hsz:vs.toArray.size=zs.toArray.size:=by rw [List.size_toArray,List.size_toArray];omega
    have eb:b=(List.range vs.toArray.size).all (ans F.h n xs ys):=by
     rw [(zhk e).2,←hl,Nat.min_self,List.size_toArray,←l3,←l1];rfl
    rw [eb]
    exact ⟨.lists pl.isList pz.isList hsz (by omega) (items r5 r6 rv rz e),.lists pl.isList pz.isList hsz (by omega) (items r5 r6 rv rz e)⟩
   ·rw [if_neg hl] at e;cases e
    have hsz:(vs.toArray.size !=zs.toArray.size)=true:=by rw [List.size_toArray,List.size_toArray];simp;omega
    exact ⟨.lists_lengths pl.isList pz.isList hsz (by omega),.lists_lengths pl.isList pz.isList hsz (by omega)⟩
  case succ.t.t xs ys=>
   obtain ⟨a,us,rfl,h5,r5⟩:=kx
   obtain ⟨a',us',rfl,h6,r6⟩:=ky
   refine wrap rfl rfl ?_
   cases rv;cases ru
   obtain ⟨vs,rv,pl,_⟩:=I.tuple (SqT.of (K:=X.K) h5)
   obtain ⟨zs,rz,pz,_⟩:=I.tuple (SqT.of (K:=X.K) h6)
   have l1:=r5.length;have l2:=r6.length;have l3:=rv.length;have l4:=rz.length
   cases q:qc (yi F.h n) xs ys with
   | none=>rw [q] at e;cases e
   | some c=>
    rw [q] at e
    have eb:b=((List.range (min vs.toArray.size zs.toArray.size)).all (ans F.h n xs ys) && vs.toArray.size==zs.toArray.size):=by
     cases e
     rw [(zhk q).2,List.size_toArray,List.size_toArray,←l3,←l4,←l1,←l2];rfl
    rw [eb]
    exact ⟨.tuples (show s.heap.IsTuple a vs.toArray from pl) (show s.heap.IsTuple a' zs.toArray from pz) (by omega) (items r5 r6 rv rz q),.tuples (show s.heap.IsTuple a vs.toArray from pl) (show s.heap.IsTuple a' zs.toArray from pz) (by omega) (items r5 r6 rv rz q)⟩
  case succ.l.t.refl xs ys=>
   obtain ⟨a,us,rfl,h5,r5⟩:=kx
   obtain ⟨a',us',rfl,h6,r6⟩:=ky
   refine wrap rfl rfl ?_
   cases rv;cases ru
   obtain ⟨vs,rv,pl,_⟩:=I.list (SqL.of (K:=X.K) h5)
   obtain ⟨zs,rz,pz,_⟩:=I.tuple (SqT.of (K:=X.K) h6)
   exact ⟨.list_tuple pl.isList (show s.heap.IsTuple a' zs.toArray from pz) (by omega),.list_tuple pl.isList (show s.heap.IsTuple a' zs.toArray from pz) (by omega)⟩
  case succ.t.l.refl xs ys=>
   obtain ⟨a,us,rfl,h5,r5⟩:=kx
   obtain ⟨a',us',rfl,h6,r6⟩:=ky
   refine wrap rfl rfl ?_
   cases rv;cases ru
   obtain ⟨vs,rv,pl,_⟩:=I.tuple (SqT.of (K:=X.K) h5)
   obtain ⟨zs,rz,pz,_⟩:=I.list (SqL.of (K:=X.K) h6)
   exact ⟨.tuple_list (show s.heap.IsTuple a vs.toArray from pl) pz.isList (by omega),.tuple_list (show s.heap.IsTuple a vs.toArray from pl) pz.isList (by omega)⟩
  case succ.l.f.refl xs a0=>
   obtain ⟨a,us,rfl,h5,r5⟩:=kx
   obtain ⟨e3,e4⟩:=ky
   subst e3
   cases rv
   obtain ⟨vs,rv,pl,_⟩:=I.list (SqL.of (K:=X.K) h5)
   have hu':A.units < cLine:=by omega
   cases u' with
   | non=>cases ru;exact ⟨⟨.list_none pl.isList hu',.list_none pl.isList hu'⟩,.list_none pl.isList hu'⟩
   | bl b=>cases ru;exact ⟨⟨.list_bool b pl.isList hu',.list_bool b pl.isList hu'⟩,.list_bool b pl.isList hu'⟩
   | int b=>obtain ⟨t,rfl⟩:=ru;exact ⟨⟨.list_int b t pl.isList hu',.list_int b t pl.isList hu'⟩,.list_int b t pl.isList hu'⟩
   | str b=>obtain ⟨t,rfl⟩:=ru;exact ⟨⟨.list_str b t pl.isList hu',.list_str b t pl.isList hu'⟩,.list_str b t pl.isList hu'⟩
   | _=>exact absurd (show false=true from e4) Bool.false_ne_true
  case succ.t.f.refl xs a0=>
   obtain ⟨a,us,rfl,h5,r5⟩:=kx
   obtain ⟨e3,e4⟩:=ky
   subst e3
   cases rv
   obtain ⟨vs,rv,pl,_⟩:=I.tuple (SqT.of (K:=X.K) h5)
   have pl:s.heap.IsTuple a vs.toArray:=pl
   have hu':A.units < cLine:=by omega
   cases u' with
   | non=>cases ru;exact ⟨⟨.tuple_none pl hu',.tuple_none pl hu'⟩,.tuple_none pl hu'⟩
   | bl b=>cases ru;exact ⟨⟨.tuple_bool b pl hu',.tuple_bool b pl hu'⟩,.tuple_bool b pl hu'⟩
   | int b=>obtain ⟨t,rfl⟩:=ru;exact ⟨⟨.tuple_int b t pl hu',.tuple_int b t pl hu'⟩,.tuple_int b t pl hu'⟩
   | str b=>obtain ⟨t,rfl⟩:=ru;exact ⟨⟨.tuple_str b t pl hu',.tuple_str b t pl hu'⟩,.tuple_str b t pl hu'⟩
   | _=>exact absurd (show false=true from e4) Bool.false_ne_true
  case succ.f.l.refl a0 xs=>
   obtain ⟨a,us,rfl,h5,r5⟩:=ky
   obtain ⟨e3,e4⟩:=kx
   subst e3
   cases ru
   obtain ⟨vs,ru,pl,_⟩:=I.list (SqL.of (K:=X.K) h5)
   have hu':A.units < cLine:=by omega
   cases v' with
   | non=>cases rv;exact ⟨⟨.none_list pl.isList hu',.none_list pl.isList hu'⟩,.none_list pl.isList hu'⟩
   | bl b=>cases rv;exact ⟨⟨.bool_list b pl.isList hu',.bool_list b pl.isList hu'⟩,.bool_list b pl.isList hu'⟩
   | int b=>obtain ⟨t,rfl⟩:=rv;exact ⟨⟨.int_list b t pl.isList hu',.int_list b t pl.isList hu'⟩,.int_list b t pl.isList hu'⟩
   | str b=>obtain ⟨t,rfl⟩:=rv;exact ⟨⟨.str_list b t pl.isList hu',.str_list b t pl.isList hu'⟩,.str_list b t pl.isList hu'⟩
   | _=>exact absurd (show false=true from e4) Bool.false_ne_true
  case succ.f.t.refl a0 xs=>
   obtain ⟨a,us,rfl,h5,r5⟩:=ky
   obtain ⟨e3,e4⟩:=kx
   subst e3
   cases ru
   obtain ⟨vs,ru,pl,_⟩:=I.tuple (SqT.of (K:=X.K) h5)
   have pl:s.heap.IsTuple a vs.toArray:=pl
   have hu':A.units < cLine:=by omega
   cases v' with
   | non=>cases rv;exact ⟨⟨.none_tuple pl hu',.none_tuple pl hu'⟩,.none_tuple pl hu'⟩
   | bl b=>cases rv;exact ⟨⟨.bool_tuple b pl hu',.bool_tuple b pl hu'⟩,.bool_tuple b pl hu'⟩
   | int b=>obtain ⟨t,rfl⟩:=rv;exact ⟨⟨.int_tuple b t pl hu',.int_tuple b t pl hu'⟩,.int_tuple b t pl hu'⟩
   | str b=>obtain ⟨t,rfl⟩:=rv;exact ⟨⟨.str_tuple b t pl hu',.str_tuple b t pl hu'⟩,.str_tuple b t pl hu'⟩
   | _=>exact absurd (show false=true from e4) Bool.false_ne_true
def qJ (s:S3) (h:H3) (x y:Rf):Option Bool:=match rdm s h x,rdm s h y with
 | some xs,some ys=>if xs.length=ys.length then qc (yi h 8) xs ys else some false
 | _,_=>match x,y with
  | .x a,.x b=>yi h 9 a b
  | _,_=>none
def yO:F2:=fun s h x y=>(qJ s h x y).map fun b=> .v (.bl b)
def qd:F2:=fun s h x y=>(qJ s h x y).map fun b=> .v (.bl !b)
def rEqT (κ:Kx) (neg:Bool):R2:=fun v w H Q=> ∃F σ x y b,Rel κ F σ H∧RfR κ F H x v∧RfR κ F H y w∧qJ F.s F.h x y=some b∧Q (.bl (if neg then !b else b)) H
theorem zxr {pins:List (Addr×Obj)} {s:Shared} {σ':L2.St} {x y:Rf} {v' u':V} {v u:Value} {b:Bool} {A:Around} (I:Inv X pins σ' H s) (rel:Rel κ F σ H) (rx:RfR κ F H x v') (ry:RfR κ F H y u') (rv:RelV v' v) (ru:RelV u' u) (e:qJ F.s F.h x y=some b) (hu:A.units+9 < cLine):
  SeqAt.RcAt A s v u b∧SeqAt.RcNeAt A s v u (!b):=by
 unfold qJ at e
 split at e
 ·rename_i xs ys q1 q2
  obtain ⟨a,us,rfl,h5,r5⟩:=zgm rel rx q1
  obtain ⟨a',us',rfl,h6,r6⟩:=zgm rel ry q2
  cases rv;cases ru
  obtain ⟨vs,rv,pl,_⟩:=I.list (SqL.of (K:=X.K) h5)
  obtain ⟨zs,rz,pz,_⟩:=I.list (SqL.of (K:=X.K) h6)
  have l1:=r5.length;have l2:=r6.length;have l3:=rv.length;have l4:=rz.length
  by_cases hl:xs.length=ys.length
  ·rw [if_pos hl] at e
   have hsz:vs.toArray.size=zs.toArray.size:=by rw [List.size_toArray,List.size_toArray];omega
   have eb:b=(List.range vs.toArray.size).all (ans F.h 8 xs ys):=by
    rw [(zhk e).2,←hl,Nat.min_self,List.size_toArray,←l3,←l1];rfl
   have items: ∀j (h1:j < vs.toArray.size) (h2:j < zs.toArray.size),SeqAt.EqAt A.in1 s vs.toArray[j] zs.toArray[j] (ans F.h 8 xs ys j):=by
    intro j h1 h2
    have h1':j < xs.length:=by rw [l1,l3];simpa using h1
    have h2':j < ys.length:=by rw [l2,l4];simpa using h2
    obtain ⟨y1,hy1,ry1⟩:=r5.get (zy h1')
    obtain ⟨y2,hy2,ry2⟩:=r6.get (zy h2')
    obtain ⟨d,hd⟩:=(zhk e).1 j _ _ (zy h1') (zy h2')
    have ea:ans F.h 8 xs ys j=d:=by unfold ans;rw [zy h1',zy h2'];simp [hd]
    rw [ea]
    exact (zw8 rel.heap 8 I ry1 ry2 (Vals.at rv h1 hy1) (Vals.at rz h2 hy2) hd (by show A.units+1+8 < cLine;omega)).2
   rw [eb]
   exact ⟨.lists pl.isList pz.isList hsz (by omega) items,.lists pl.isList pz.isList hsz (by omega) items⟩
  ·rw [if_neg hl] at e;cases e
   have hsz:(vs.toArray.size !=zs.toArray.size)=true:=by rw [List.size_toArray,List.size_toArray];simp;omega
   exact ⟨.lists_lengths pl.isList pz.isList hsz (by omega),.lists_lengths pl.isList pz.isList hsz (by omega)⟩
 ·split at e
  ·exact (zw8 rel.heap 9 I (show Rep κ F.β F.O H _ v' from rx) (show Rep κ F.β F.O H _ u' from ry) rv ru e hu).1
  ·cases e
theorem zed (hu:X.A.units+9 < cLine):OpR X (compareOp .Eq) (rEqT κ false):=by
 intro pins s σ H x y v u Q I rx ry h
 obtain ⟨F,σ',x3,y3,b,rel,r1,r2,e,q⟩:=h
 exact (zxr I rel r1 r2 rx ry e hu).1 X.prog X.w X.xe _ ⟨.bl b,H,I,rfl,q⟩
theorem zi4 (hu:X.A.units+9 < cLine):OpR X (compareOp .NotEq) (rEqT κ true):=by
 intro pins s σ H x y v u Q I rx ry h
 obtain ⟨F,σ',x3,y3,b,rel,r1,r2,e,q⟩:=h
 exact (zxr I rel r1 r2 rx ry e hu).2 X.prog X.w X.xe _ ⟨.bl !b,H,I,rfl,q⟩
theorem zeh:OpSim κ (rEqT κ false) yO:=fun F σ H x y z v w Q rel rx ry e k=>by
 unfold yO at e
 cases q:qJ F.s F.h x y with
 | none=>rw [q] at e;cases e
 | some b=>rw [q] at e;cases e;exact ⟨F,σ,x,y,b,rel,rx,ry,q,k _ H Ext.refl ⟨rel,.bl _⟩⟩
theorem zj5:OpSim κ (rEqT κ true) qd:=fun F σ H x y z v w Q rel rx ry e k=>by
 unfold qd at e
 cases q:qJ F.s F.h x y with
 | none=>rw [q] at e;cases e
 | some b=>rw [q] at e;cases e;exact ⟨F,σ,x,y,b,rel,rx,ry,q,k _ H Ext.refl ⟨rel,.bl _⟩⟩
end
section
variable {X:Cx} {κ:Kx} {E:XK} {F:Fr} {σ:L2.St} {H H':Hp} {Q:VK} {p:Addr} {pos np:Pos} {i:Nat} {x:Str} {e:Expr} {es:List Expr} {t:A3}
theorem yr {id:String} {r:List V→Hp→VK→Prop} {f:FB} (hs:qP κ r f) (hc:CallR X (.builtin id) r) (hg:Gl X x) (hm:X.mg x=none) (hv:bootBuiltins x=some (.builtin id)) (ha:PA X (e::es) (zV κ E t)) (hn:x≠"__name__" :=by decide) (hdb:(x==("__debug__" :Str))=false:=by decide)
 (he:starEach (e::es) X.env=(false,eval e X.env)::starEach es X.env:=by rfl) (hpl:(backTo pos (starEach es X.env)).any (·.1)=false:=by rfl):PE X (.Call (.Name x np) (e::es) [] pos) (zf κ E (eB f t)):=yv (zq0 hc hg hm hv ha hn hdb he hpl) fun _ _ _ h=>te_b hs h
theorem r_ty {T:String} {r:List V→Hp→VK→Prop} {f:FB} (hs:qP κ r f) (hc:CallR X (.type T) r) (hg:Gl X x) (hm:X.mg x=none) (hv:bootBuiltins x=some (.type T)) (ha:PA X (e::es) (zV κ E t)) (hn:x≠"__name__" :=by decide) (hdb:(x==("__debug__" :Str))=false:=by decide)
 (he:starEach (e::es) X.env=(false,eval e X.env)::starEach es X.env:=by rfl) (hpl:(backTo pos (starEach es X.env)).any (·.1)=false:=by rfl):PE X (.Call (.Name x np) (e::es) [] pos) (zf κ E (eB f t)):=yv (zou hc hg hm hv ha hn hdb he hpl) fun _ _ _ h=>te_b hs h
theorem p1 {f:Rf} {vs:List V} (r:Paired (RfR κ F H) [f] vs): ∃v,vs=[v]∧RfR κ F H f v:=by
 cases r with | cons a t=>cases t;exact ⟨_,rfl,a⟩
theorem p2 {f g:Rf} {vs:List V} (r:Paired (RfR κ F H) [f,g] vs): ∃v w,vs=[v,w]∧RfR κ F H f v∧RfR κ F H g w:=by
 cases r with | cons a t=>cases t with | cons b t=>cases t;exact ⟨_,_,rfl,a,b⟩
theorem p3 {f g k:Rf} {vs:List V} (r:Paired (RfR κ F H) [f,g,k] vs): ∃v w u,vs=[v,w,u]∧RfR κ F H f v∧RfR κ F H g w∧RfR κ F H k u:=by
 cases r with | cons a t=>cases t with | cons b t=>cases t with | cons c t=>cases t;exact ⟨_,_,_,rfl,a,b,c⟩
def bLen:FB:=fun s h fs=>match fs with
 | [.x (.str y)]=>if y.length≤sizeLine then some (.v (.int y.length)) else none
 | [.x (.tup xs)]=>some (.v (.int xs.length))
 | [f]=>(rdl s h f).map fun xs=> .v (.int xs.length)
 | _=>none
theorem qE:qP κ (fun xs H Q=> ∃x n,xs=[x]∧LenV κ.K x H n∧Q (.int n) H) bLen:=fun F σ H fs z vs Q rel r e k=>by
 unfold bLen at e
 split at e
 ·rename_i y
  obtain ⟨v,rfl,rv⟩:=p1 r
  cases (show Rep κ F.β F.O H (.str y) v from rv)
  obtain ⟨h,rfl⟩:=qC e
  exact ⟨_,_,rfl,⟨h,rfl⟩,k _ H Ext.refl ⟨rel,.int _⟩⟩
 ·rename_i xs
  obtain ⟨v,rfl,rv⟩:=p1 r
  cases e
  cases (show Rep κ F.β F.O H (.tup xs) v from rv) with
  | tup h1 h2 h3 h4=>exact ⟨_,_,rfl,.inr ⟨_,.of h1,rfl⟩,k _ H Ext.refl ⟨rel,by rw [h4.length];exact .int _⟩⟩
 ·rename_i f _ _
  obtain ⟨v,rfl,rv⟩:=p1 r
  cases q:rdl F.s F.h f with
  | none=>rw [q] at e;cases e
  | some xs=>
   rw [q] at e;cases e
   obtain ⟨a,ys,rfl,sq,rs⟩:=zfn rel rv q
   exact ⟨_,_,rfl,.inl ⟨_,sq,rfl⟩,k _ H Ext.refl ⟨rel,by rw [rs.length];exact .int _⟩⟩
 ·cases e
theorem qF (hK:X.K=κ.K):CallR X (.builtin "len") (fun xs H Q=> ∃x n,xs=[x]∧LenV κ.K x H n∧Q (.int n) H):=by rw [←hK];exact zqw
noncomputable def bMax:FB:=fun _ _ fs=>match fs with
 | [.x (.int i),.x (.int j)]=>some (.v (.int (max i j)))
 | _=>none
noncomputable def bMin:FB:=fun _ _ fs=>match fs with
 | [.x (.int i),.x (.int j)]=>some (.v (.int (min i j)))
 | _=>none
noncomputable def bMin3:FB:=fun _ _ fs=>match fs with
 | [.x (.int i),.x (.int j),.x (.int k)]=>some (.v (.int (min i (min j k))))
 | _=>none
theorem zqb:qP κ (fun xs H Q=> ∃i j,xs=[.int i,.int j]∧Q (.int (if j > i then j else i)) H) bMax:=fun F σ H fs z vs Q rel r e k=>by
 unfold bMax at e
 split at e
 ·rename_i i j
  cases e
  obtain ⟨v,w,rfl,rv,rw'⟩:=p2 r
  cases (show Rep κ F.β F.O H (.int i) v from rv)
  cases (show Rep κ F.β F.O H (.int j) w from rw')
  refine ⟨i,j,rfl,k _ H Ext.refl ⟨rel,?_⟩⟩
  have:(if j > i then j else i)=max i j:=by split <;> omega
  rw [this];exact .int _
 ·cases e
theorem zrs:qP κ (fun xs H Q=> ∃i j k:Int,xs=[.int i,.int j,.int k]∧Q (.int (min i (min j k))) H) bMin3:=fun F σ H fs z vs Q rel r e k=>by
 unfold bMin3 at e
 split at e
 ·rename_i i j l
  cases e
  obtain ⟨v,w,u,rfl,rv,rw',ru⟩:=p3 r
  cases (show Rep κ F.β F.O H (.int i) v from rv)
  cases (show Rep κ F.β F.O H (.int j) w from rw')
  cases (show Rep κ F.β F.O H (.int l) u from ru)
  exact ⟨i,j,l,rfl,k _ H Ext.refl ⟨rel,.int _⟩⟩
 ·cases e
noncomputable def bInt:FB:=fun _ _ fs=>match fs with
 | [.x (.int i)]=>some (.v (.int i))
 | [.x (.bl b)]=>some (.v (.int (if b then 1 else 0)))
 | _=>none
theorem ztt:qP κ (fun xs H Q=>(∃i,xs=[.int i]∧Q (.int i) H)∨∃k,xs=[.bl k]∧Q (.int (if k then 1 else 0)) H) bInt:=fun F σ H fs z vs Q rel r e k=>by
 unfold bInt at e
 split at e
 ·rename_i i
  cases e
  obtain ⟨v,rfl,rv⟩:=p1 r
  cases (show Rep κ F.β F.O H (.int i) v from rv)
  exact .inl ⟨i,rfl,k _ H Ext.refl ⟨rel,.int _⟩⟩
 ·rename_i b
  cases e
  obtain ⟨v,rfl,rv⟩:=p1 r
  cases (show Rep κ F.β F.O H (.bl b) v from rv)
  exact .inr ⟨b,rfl,k _ H Ext.refl ⟨rel,.int _⟩⟩
 ·cases e
def bList:FB:=fun s h fs=>match fs with
 | [.x (.tup xs)]=>some (.m (.lst xs))
 | [f]=>(rdl s h f).map fun xs=> .m (.lst xs)
 | _=>none
noncomputable def zD {α β:Type} (f:α→Option β):List α→Option (List β)
 | []=>some []
 | x::r=>match f x,zD f r with
  | some y,some l=>some (y::l)
  | _,_=>none
theorem zet {α β γ:Type} {f:α→Option β} {g:γ→α} {k:γ→β} (h: ∀c,f (g c)=some (k c)): ∀l:List γ,zD f (l.map g)=some (l.map k)
 | []=>rfl
 | x::r=>by simp only [List.map_cons,zD,h x,zet h r]
theorem zdv {α β:Type} {f:α→Option β} {x:α} {r:List α} {l:List β} (e:zD f (x::r)=some l): ∃y l',f x=some y∧zD f r=some l'∧l=y::l':=by
 unfold zD at e
 cases q1:f x with
 | none=>simp only [q1] at e;cases e
 | some y=>
  cases q2:zD f r with
  | none=>simp only [q1,q2] at e;cases e
  | some l'=>simp only [q1,q2] at e;cases e;exact ⟨y,l',rfl,rfl,rfl⟩
def bl3:V3→Option Bool
 | .bl b=>some b
 | _=>none
def int3:V3→Option Int
 | .int i=>some i
 | _=>none
theorem zl4: ∀{xs:List V3} {ys:List V} {bs:List Bool},Reps κ F.β F.O H xs ys→zD bl3 xs=some bs→ys=bs.map V.bl
 | _,_,_,.nil,e=>by cases e;rfl
 | x::xs,y::ys,bs,.cons a r,e=>by
  obtain ⟨b,l,h1,h2,rfl⟩:=zdv e
  cases x <;> simp [bl3] at h1
  subst h1
  cases a
  rw [List.map_cons,zl4 r h2]
theorem zj7: ∀{xs:List V3} {ys:List V} {bs:List Int},Reps κ F.β F.O H xs ys→zD int3 xs=some bs→ys=bs.map V.int
 | _,_,_,.nil,e=>by cases e;rfl
 | x::xs,y::ys,bs,.cons a r,e=>by
  obtain ⟨b,l,h1,h2,rfl⟩:=zdv e
  cases x <;> simp [int3] at h1
  subst h1
  cases a
  rw [List.map_cons,zj7 r h2]
def bAll (q:List Bool→Bool):FB:=fun s h fs=>match fs with
 | [f]=>match rdl s h f with
  | some xs=>(zD bl3 xs).map fun bs=> .v (.bl (q bs))
  | none=>none
 | _=>none
theorem ztp {q:List Bool→Bool}:qP κ (fun xs H Q=> ∃(p:Addr) (bs:List Bool),xs=[.ref p]∧SqL κ.K H p (bs.map V.bl)∧Q (.bl (q bs)) H) (bAll q):=fun F σ H fs z vs Q rel r e k=>by
 unfold bAll at e
 split at e
 ·rename_i f
  obtain ⟨v,rfl,rv⟩:=p1 r
  cases q1:rdl F.s F.h f with
  | none=>rw [q1] at e;cases e
  | some xs=>
   rw [q1] at e
   cases q2:zD bl3 xs with
   | none=>simp only [q2] at e;cases e
   | some bs=>
    simp only [q2] at e;cases e
    obtain ⟨a,ys,rfl,sq,rs⟩:=zfn rel rv q1
    exact ⟨a,bs,rfl,by rw [←zl4 rs q2];exact sq,k _ H Ext.refl ⟨rel,.bl _⟩⟩
 ·cases e
theorem zoz (hK:X.K=κ.K) (hc:X.calm=true):CallR X (.builtin "all") (fun xs H Q=> ∃(p:Addr) (bs:List Bool),xs=[.ref p]∧SqL κ.K H p (bs.map V.bl)∧Q (.bl (bs.all id)) H):=by rw [←hK];exact zr0 hc
instance {x:Int}:Decidable (InLong x):=inferInstanceAs (Decidable (_∧_))
noncomputable def zi2:Int→List Int→Bool
 | _,[]=>true
 | a,x::r=>decide (InLong x) && decide (InLong (a+x)) && zi2 (a+x) r
theorem zll: ∀{ns:List Int} {a:Int},zi2 a ns=true→∀j,j < ns.length→InLong (ns.getD j 0)∧InLong (a+(ns.take (j+1)).sum)
 | [],_,_,j,h=>by simp at h
 | x::r,a,e,j,h=>by
  simp only [zi2,Bool.and_eq_true,decide_eq_true_eq] at e
  cases j with
  | zero=>simpa using e.1
  | succ j=>
   have:=zll (a:=a+x) e.2 j (by simpa using h)
   rw [List.take_succ_cons,List.sum_cons,←Int.add_assoc]
   simpa using this
def ye:FB:=fun s h fs=>match fs with
 | [f]=>match rdl s h f with
  | some xs=>match zD int3 xs with
   | some ns=>if zi2 0 ns=true then some (.v (.int ns.sum)) else none
   | none=>none
  | none=>none
 | _=>none
theorem zhx:qP κ (fun xs H Q=> ∃(p:Addr) (ns:List Int),xs=[.ref p]∧SqL κ.K H p (ns.map V.int)∧zvh ns∧Q (.int ns.sum) H) ye:=fun F σ H fs z vs Q rel r e k=>by
 unfold ye at e
 split at e
 ·rename_i f
  obtain ⟨v,rfl,rv⟩:=p1 r
  cases q1:rdl F.s F.h f with
  | none=>rw [q1] at e;cases e
  | some xs=>
   rw [q1] at e
   cases q2:zD int3 xs with
   | none=>simp only [q2] at e;cases e
   | some bs=>
    simp only [q2] at e
    obtain ⟨h,rfl⟩:=qC e
    obtain ⟨a,ys,rfl,sq,rs⟩:=zfn rel rv q1
    exact ⟨a,bs,rfl,by rw [←zj7 rs q2];exact sq,fun j hj=>by have:=zll h j hj;rw [Int.zero_add] at this;exact this,k _ H Ext.refl ⟨rel,.int _⟩⟩
 ·cases e
theorem zew (hK:X.K=κ.K) (hc:X.calm=true):CallR X (.builtin "sum") (fun xs H Q=> ∃(p:Addr) (ns:List Int),xs=[.ref p]∧SqL κ.K H p (ns.map V.int)∧zvh ns∧Q (.int ns.sum) H):=by rw [←hK];exact zql hc
def ty3 (s:S3) (h:H3):Rf→Option String
 | .x .non=>some "NoneType"
 | .x (.bl _)=>some "bool"
 | .x (.int _)=>some "int"
 | .x (.str _)=>some "str"
 | .x (.tup _)=>some "tuple"
 | .x (.scr _)=>none
 | f=>(rdl s h f).map fun _=>"list"
noncomputable def isa (t T:String):Option Bool:=
 if T="int" then some (t=="int" || t=="bool") else if T="bool" ∨T="str" ∨T="list" ∨T="tuple" then some (t==T) else none
def bIsT:FB:=fun s h fs=>match fs with
 | [f,.x (.ty T)]=>match ty3 s h f with
  | some t=>(isa t T).map fun b=> .v (.bl b)
  | none=>none
 | _=>none
theorem ztm {K:PySem.W.Frag} {t T:String} {b:Bool} (ht:t∈["NoneType","bool","int","str","tuple","list"]) (e:isa t T=some b):PySem.W.kitOne K (.type t) (.type T)=some b:=by
 unfold isa at e
 have hT:T∈["int","bool","str","list","tuple"]:=by
  by_cases h:T="int"
  ·simp [h]
  ·rw [if_neg h] at e
   by_cases h2:T="bool" ∨T="str" ∨T="list" ∨T="tuple"
   ·simp only [List.mem_cons,List.not_mem_nil,or_false];exact .inr h2
   ·rw [if_neg h2] at e;cases e
 simp only [List.mem_cons,List.not_mem_nil,or_false] at ht hT
 rcases ht with rfl | rfl | rfl | rfl | rfl | rfl <;> rcases hT with rfl | rfl | rfl | rfl | rfl <;> (simp at e;subst e;rfl)
theorem zyz {f:Rf} {v:V} {t:String} (rel:Rel κ F σ H) (r:RfR κ F H f v) (e:ty3 F.s F.h f=some t):t∈["NoneType","bool","int","str","tuple","list"]∧TyOf κ.K H v (.type t):=by
 have lists: ∀{f:Rf} {v:V} {t:String},RfR κ F H f v→(∀ns,f≠ .x (.scr ns))→((rdl F.s F.h f).map fun _=>"list")=some t→t∈["NoneType","bool","int","str","tuple","list"]∧TyOf κ.K H v (.type t):=by
  intro f v t r hf e
  cases q:rdl F.s F.h f with
  | none=>rw [q] at e;cases e
  | some xs=>
   rw [q] at e;cases e
   have q2:rdm F.s F.h f=some xs:=by
    unfold rdm
    split
    ·rename_i ns;exact absurd rfl (hf ns)
    ·exact q
   obtain ⟨a,ys,rfl,ha,_⟩:=zgm rel r q2
   exact ⟨by simp,.lst ha⟩
 cases f with
 | s i=>exact lists r (fun _ z=>nomatch z) e
 | x y=>
  cases y with
  | non=>cases e;cases (show Rep κ F.β F.O H .non v from r);exact ⟨by simp,.non⟩
  | bl b=>cases e;cases (show Rep κ F.β F.O H (.bl b) v from r);exact ⟨by simp,.bl b⟩
  | int b=>cases e;cases (show Rep κ F.β F.O H (.int b) v from r);exact ⟨by simp,.int b⟩
  | str b=>cases e;cases (show Rep κ F.β F.O H (.str b) v from r);exact ⟨by simp,.str b⟩
  | tup xs=>cases e;cases (show Rep κ F.β F.O H (.tup xs) v from r) with | tup h1 _ _ _=>exact ⟨by simp,.tup h1⟩
  | scr ns=>cases e
  | lst xs=>exact lists r (fun _ z=>nomatch z) e
  | loc n=>exact lists r (fun _ z=>nomatch z) e
  | _=>cases e
theorem zh4:qP κ (fun xs H Q=> ∃x T t b,xs=[x,.ty T]∧TyOf κ.K H x t∧PySem.W.kitOne κ.K t (.type T)=some b∧Q (.bl b) H) bIsT:=fun F σ H fs z vs Q rel r e k=>by
 unfold bIsT at e
 split at e
 ·rename_i f T
  obtain ⟨v,w,rfl,rv,rw'⟩:=p2 r
  cases (show Rep κ F.β F.O H (.ty T) w from rw')
  cases q1:ty3 F.s F.h f with
  | none=>rw [q1] at e;cases e
  | some t=>
   rw [q1] at e
   cases q2:isa t T with
   | none=>simp only [q2] at e;cases e
   | some b=>
    simp only [q2] at e;cases e
    obtain ⟨h1,h2⟩:=zyz rel rv q1
    exact ⟨v,T,_,b,rfl,h2,ztm h1 q2,k _ H Ext.refl ⟨rel,.bl _⟩⟩
 ·cases e
theorem zf1 (hK:X.K=κ.K):CallR X (.builtin "isinstance") (fun xs H Q=> ∃x T t b,xs=[x,.ty T]∧TyOf κ.K H x t∧PySem.W.kitOne κ.K t (.type T)=some b∧Q (.bl b) H):=by rw [←hK];exact zku
def tru3 (s:S3) (h:H3):Rf→Option Bool
 | .x .non=>some false
 | .x (.bl b)=>some b
 | .x (.int i)=>some (i !=0)
 | .x (.str y)=>if y.length≤sizeLine then some ((y.length:Int) !=0) else none
 | .x (.tup xs)=>some (!xs.isEmpty)
 | f=>(rdl s h f).map fun xs=> !xs.isEmpty
def tP (p:P3):T3:=fun s h=>(p s h).bind fun f h1=>match tru3 s h1 f with
 | some b=> .ok b h1
 | none=> .no
theorem zfo {xs:List V3} {ys:List V} (r:Reps κ F.β F.O H xs ys):xs.isEmpty=ys.isEmpty:=by cases r <;> rfl
theorem zuj {f:Rf} {v:V} {b:Bool} (rel:Rel κ F σ H) (r:RfR κ F H f v) (e:tru3 F.s F.h f=some b):TruV κ.K v H b:=by
 have lists: ∀{f:Rf} {v:V} {b:Bool},RfR κ F H f v→((rdl F.s F.h f).map fun xs=> !xs.isEmpty)=some b→TruV κ.K v H b:=by
  intro f v b r e
  cases q:rdl F.s F.h f with
  | none=>rw [q] at e;cases e
  | some xs=>
   rw [q] at e;cases e
   obtain ⟨a,ys,rfl,sq,rs⟩:=zfn rel r q
   exact .inl ⟨ys,sq,by show (!xs.isEmpty)=_;rw [zfo rs]⟩
 cases f with
 | s i=>exact lists r e
 | x y=>
  cases y with
  | non=>cases e;cases (show Rep κ F.β F.O H .non v from r);rfl
  | bl b=>cases e;cases (show Rep κ F.β F.O H (.bl b) v from r);rfl
  | int b=>cases e;cases (show Rep κ F.β F.O H (.int b) v from r);rfl
  | str b=>cases (show Rep κ F.β F.O H (.str b) v from r);obtain ⟨h,rfl⟩:=qC e;exact ⟨h,rfl⟩
  | tup xs=>cases e;cases (show Rep κ F.β F.O H (.tup xs) v from r) with | tup h1 _ _ h4=>exact .inr (.inl ⟨_,.of h1,by rw [zfo h4]⟩)
  | scr ns=>exact lists r e
  | lst xs=>exact lists r e
  | loc n=>exact lists r e
  | _=>cases e
theorem zsj {a:Expr} {d:P3} (hK:X.K=κ.K) (ha:PE X a (zl κ E d)) (he: ∀whole,isTrue a X.env whole=(do let v ←whole;standAt a.pos;holding [v] (truthy v)):=by intro _;rfl):PT X a (zL κ E (tP d)):=PTw (zqo ha he) fun σ H Q ⟨F,rel,o⟩=>
 (zY (K:=kP κ) km_T rel o).mono fun v H1 ⟨β1,h1,f,e1,⟨r1,rf⟩,o1⟩=>by
  cases q:tru3 F.s h1 f with
  | none=>simp only [q] at o1;exact o1.elim
  | some b=>
   simp only [q] at o1
   exact ⟨b,by rw [hK];exact zuj (F:=F.to β1 h1) r1 rf q,o1 β1 b H1 Ext.refl ⟨rfl,r1⟩⟩
def key3:V3→Option zq
 | .int i=>some (.inl i)
 | .str x=>some (.inr x)
 | _=>none
def row3:V3→Option (List zq)
 | .tup xs=>zD key3 xs
 | _=>none
def unk:zq→V3
 | .inl i=> .int i
 | .inr x=> .str x
def zhv (r:List zq):V3:= .tup (r.map unk)
def zrn (ns:List Int):List Int:=ns.mergeSort (fun a b=>decide (a≤b))
def zk7 (rows:List (List zq)):List (List zq):=rows.mergeSort (fun a b=> !lexK b a)
def ziw (rows:List (List zq)):Bool:=match rows with
 | []=>true
 | r::l=>(ql r).head? ==some true && l.all fun q=>ql q==ql r
def zn2 (xs:List V3):Option (List V3):=match zD int3 xs with
 | some ns=>if ns.length≤100000 then some ((zrn ns).map .int) else none
 | none=>match zD row3 xs with
  | some rows=>if rows.length≤100000∧ziw rows=true then some ((zk7 rows).map zhv) else none
  | none=>none
def qZ:FB:=fun s h fs=>match fs with
 | [f]=>match rdl s h f with
  | some xs=>(zn2 xs).map fun ys=> .m (.lst ys)
  | none=>none
 | _=>none
theorem zlf (ns:List Int):(zrn ns).Perm ns∧(zrn ns).Pairwise (fun a b=>a≤b):=by
 refine ⟨List.mergeSort_perm _ _,?_⟩
 have:=List.pairwise_mergeSort (le:=fun a b:Int=>decide (a≤b)) (fun a b c h1 h2=>by simp at*;omega) (fun a b=>by simp;omega) ns
 exact this.imp fun h=>by simpa using h
theorem zh0 (rows:List (List zq)):(zk7 rows).Perm rows∧(zk7 rows).Pairwise (fun a b=>lexK b a=false):=by
 refine ⟨List.mergeSort_perm _ _,?_⟩
 have:=List.pairwise_mergeSort (le:=fun a b:List zq=> !lexK b a) (fun a b c h1 h2=>by simp at*;exact zfd a b c h1 h2) (fun a b=>by
  cases h:lexK b a with
  | false=>simp
  | true=>simp [zf9 b a h]) rows
 exact this.imp fun h=>by simpa using h
theorem zlu: ∀{xs:List V3} {ks:List zq},zD key3 xs=some ks→xs=ks.map unk
 | [],_,e=>by cases e;rfl
 | x::xs,ks,e=>by
  obtain ⟨k,l,h1,h2,rfl⟩:=zdv e
  cases x <;> simp [key3] at h1 <;> subst h1 <;> rw [List.map_cons,zlu h2] <;> rfl
theorem zlq: ∀{xs:List V3} {rows:List (List zq)},zD row3 xs=some rows→xs=rows.map zhv
 | [],_,e=>by cases e;rfl
 | x::xs,rows,e=>by
  obtain ⟨k,l,h1,h2,rfl⟩:=zdv e
  cases x <;> simp [row3] at h1
  rw [List.map_cons,zlq h2,zlu h1];rfl
theorem zlm: ∀{ks:List zq} {ys:List V},Reps κ F.β F.O H (ks.map unk) ys→ys=ks.map kV
 | [],_,r=>by cases r;rfl
 | k::ks,_,r=>by
  rw [List.map_cons] at r
  cases r with
  | cons a t=>
   rw [List.map_cons,zlm t]
   cases k <;> cases a <;> rfl
theorem zub {r:List zq} {v:V} (h:Rep κ F.β F.O H (zhv r) v):IsK κ.K H v r:=by
 unfold zhv at h
 cases h with
 | tup h1 h2 h3 h4=>exact ⟨_,rfl,.of (by rw [zlm h4] at h1;exact h1)⟩
theorem zgv: ∀{rows:List (List zq)} {ys:List V},Reps κ F.β F.O H (rows.map zhv) ys→Paired (fun v r=>Rep κ F.β F.O H (zhv r) v) ys rows
 | [],_,r=>by cases r;exact .nil
 | k::ks,_,r=>by
  rw [List.map_cons] at r
  cases r with | cons a t=>exact .cons a (zgv t)
theorem zgj: ∀{rows:List (List zq)} {ys:List V},Paired (fun v r=>Rep κ F.β F.O H (zhv r) v) ys rows→Reps κ F.β F.O H (rows.map zhv) ys
 | [],_,r=>by cases r;exact .nil
 | k::ks,_,r=>by cases r with | cons a t=>exact .cons a (zgj t)
theorem zjm: ∀l:List Int,Reps κ F.β F.O H (l.map V3.int) (l.map V.int)
 | []=> .nil
 | x::r=> .cons (.int x) (zjm r)
def zpe (κ:Kx):List V→Hp→VK→Prop:=fun xs H Q=>(∃(p:Addr) (ns:List Int),xs=[.ref p]∧SqL κ.K H p (ns.map V.int)∧ns.length≤100000∧
 ∀(l:Addr) (ns':List Int),H l=none→ns'.Perm ns→ns'.Pairwise (fun a b=>a≤b)→Q (.ref l) (zj H l (.lst (ns'.map V.int))))∨(∃(p:Addr) (ys:List V) (rows:List (List zq)) (R:V→List zq→Prop) (sh:List Bool),xs=[.ref p]∧SqL κ.K H p ys∧(∀x r,R x r→IsK κ.K H x r)∧Paired R ys rows∧rows.length≤100000∧(∀r∈rows,ql r=true::sh)∧
 ∀(l:Addr) (ys':List V) (rows':List (List zq)),H l=none→rows'.Perm rows→rows'.Pairwise (fun a b=>lexK b a=false)→Paired R ys' rows'→Q (.ref l) (zj H l (.lst ys')))
theorem zhb (hK:X.K=κ.K):CallR X (.builtin "sorted") (zpe κ):=by
 unfold zpe;rw [←hK];exact call_sortedI.or zjv
theorem zln:qP κ (zpe κ) qZ:=fun F σ H fs z vs Q rel r e k=>by
 unfold qZ at e
 split at e
 ·rename_i f
  obtain ⟨v,rfl,rv⟩:=p1 r
  cases q1:rdl F.s F.h f with
  | none=>rw [q1] at e;cases e
  | some xs=>
   rw [q1] at e
   obtain ⟨a,ys,rfl,sq,rs⟩:=zfn rel rv q1
   cases q2:zn2 xs with
   | none=>simp only [q2] at e;cases e
   | some zs=>
    simp only [q2] at e;cases e
    unfold zn2 at q2
    cases q3:zD int3 xs with
    | some ns=>
     simp only [q3] at q2
     obtain ⟨hl,rfl⟩:=qC q2
     refine .inl ⟨a,ns,rfl,by rw [←zj7 rs q3];exact sq,hl,fun l ns' hn pm pw=>?_⟩
     have e:=zjt (pm.trans (zlf ns).1.symm) pw (zlf ns).2
     rw [e]
     exact k _ _ (yY hn) (Post.lst rel hn (zjm _))
    | none=>
     simp only [q3] at q2
     cases q4:zD row3 xs with
     | none=>simp only [q4] at q2;cases q2
     | some rows=>
      simp only [q4] at q2
      obtain ⟨⟨hl,hs⟩,rfl⟩:=qC q2
      have ex:=zlq q4
      subst ex
      have hsh: ∃sh,∀r∈rows,ql r=true::sh:=by
       cases rows with
       | nil=>exact ⟨[],fun r hr=>by cases hr⟩
       | cons r0 l=>
        simp only [ziw,Bool.and_eq_true,beq_iff_eq,List.all_eq_true] at hs
        obtain ⟨h1,h2⟩:=hs
        cases q:ql r0 with
        | nil=>rw [q] at h1;cases h1
        | cons b sh=>
         rw [q] at h1;cases h1
         refine ⟨sh,fun r hr=>?_⟩
         rcases List.mem_cons.mp hr with z | z
         ·rw [z,q]
         ·rw [h2 r z,q]
      obtain ⟨sh,hsh⟩:=hsh
      refine .inr ⟨a,ys,rows,fun v r=>Rep κ F.β F.O H (zhv r) v,sh,rfl,sq,fun x r h=>zub h,zgv rs,hl,hsh,fun l ys' rows' hn pm pw pr=>?_⟩
      have e:=zf3 (pm.trans (zh0 rows).1.symm) pw (zh0 rows).2
      subst e
      exact k _ _ (yY hn) (Post.lst rel hn (zgj pr))
 ·cases e
end
section
variable {X:Cx} {κ:Kx} {E:XK} {F F1 F2 F':Fr} {σ σ':L2.St} {H H1 H2 H':Hp} {Q:VK} {p:Addr} {e a b o:Expr} {pos apos np:Pos} {i:Nat} {D:Ends}
def iR1 (a:A3):I3:=fun s h=>(a s h).bind fun fs h1=>match fs with
 | [.x (.int j)]=>if -(2 ^ 62)≤j∧j < 2 ^ 62 then .ok ⟨[],(List.range j.toNat).map fun k=> .int (0+(k:Nat)),fun _=>True⟩ h1 else .no
 | _=> .no
def iR2 (a:A3):I3:=fun s h=>(a s h).bind fun fs h1=>match fs with
 | [.x (.int i),.x (.int j)]=>if -(2 ^ 62)≤i∧i < 2 ^ 62∧ -(2 ^ 62)≤j∧j < 2 ^ 62 then .ok ⟨[],(List.range (j - i).toNat).map fun k=> .int (i+(k:Nat)),fun _=>True⟩ h1 else .no
 | _=> .no
theorem zmo {lo:Int} {n:Nat}:IR κ ⟨[],(List.range n).map fun k=> .int (lo+(k:Nat)),fun _=>True⟩ [] (Itr lo n):=fun F σ H rel _ _ i=>by
 have el:((List.range n).map fun k=>V3.int (lo+(k:Nat))).length=n:=by simp
 refine ⟨fun hi=>⟨show i < n by rw [el] at hi;exact hi,fun x H' ⟨e1,e2⟩=>?_⟩,fun hi=>show n≤i by rw [el] at hi;exact hi⟩
 subst e1;subst e2
 have hi:i < n:=by simpa using hi
 exact ⟨.int (lo+i),by simp [hi],Ext.refl,rel,.int _⟩
theorem zgp {tg:Expr} {t:A3} (hg:Gl X "range") (hm:X.mg "range" =none) (ha:PA X [a] (zV κ E t)) (hs:starEach [a] X.env=[(false,eval a X.env)]:=by rfl):PI X tg (.Call (.Name "range" np) [a] [] pos) (yC κ E (iR1 t)):=PIw (zpx hg hm ha hs) fun σ H R ⟨F,rel,o⟩=>
 (zY (K:=kA κ) km_I rel o).mono fun vs H1 ⟨β1,h1,fs,e1,⟨r1,rf⟩,o1⟩=>by
  match fs,rf,o1 with
  | [.x (.int j)],rf,o1=>
   obtain ⟨v,rfl,rv⟩:=p1 rf
   cases (show Rep κ β1 F.O H1 (.int j) v from rv)
   by_cases hj: -(2 ^ 62)≤j∧j < 2 ^ 62
   ·simp only [if_pos hj] at o1
    exact ⟨j,rfl,hj.1,hj.2,o1 β1 _ H1 Ext.refl ⟨r1,[],.nil,zmo⟩⟩
   ·simp only [if_neg hj] at o1;exact o1.elim
theorem zox {tg:Expr} {t:A3} (hg:Gl X "range") (hm:X.mg "range" =none) (ha:PA X [a,b] (zV κ E t)) (hs:starEach [a,b] X.env=[(false,eval a X.env),(false,eval b X.env)]:=by rfl) (hs2:starEach [b] X.env=[(false,eval b X.env)]:=by rfl):PI X tg (.Call (.Name "range" np) [a,b] [] pos) (yC κ E (iR2 t)):=PIw (znv hg hm ha hs hs2) fun σ H R ⟨F,rel,o⟩=>
 (zY (K:=kA κ) km_I rel o).mono fun vs H1 ⟨β1,h1,fs,e1,⟨r1,rf⟩,o1⟩=>by
  match fs,rf,o1 with
  | [.x (.int i),.x (.int j)],rf,o1=>
   obtain ⟨v,w,rfl,rv,rw'⟩:=p2 rf
   cases (show Rep κ β1 F.O H1 (.int i) v from rv)
   cases (show Rep κ β1 F.O H1 (.int j) w from rw')
   by_cases hj: -(2 ^ 62)≤i∧i < 2 ^ 62∧ -(2 ^ 62)≤j∧j < 2 ^ 62
   ·simp only [if_pos hj] at o1
    exact ⟨i,j,rfl,hj,o1 β1 _ H1 Ext.refl ⟨r1,[],.nil,zmo⟩⟩
   ·simp only [if_neg hj] at o1;exact o1.elim
def qy (a:A3):I3:=fun s h=>(a s h).bind fun fs h1=>match fs with
 | [.x x]=>match yj h1 x with
  | some (xs,ok)=> .ok ⟨[x],(List.range xs.length).map fun k=> .tup [.int (k:Nat),xs.getD k .non],ok⟩ h1
  | none=> .no
 | _=> .no
def zmy (a:A3):I3:=fun s h=>(a s h).bind fun fs h1=>match fs with
 | [.x x,.x y]=>match yj h1 x,yj h1 y with
  | some (xs,ok),some (ys,ok')=> .ok ⟨[x,y],(xs.zip ys).map fun q=> .tup [q.1,q.2],fun h=>ok h∧ok' h⟩ h1
  | _,_=> .no
 | _=> .no
theorem Rel.tup2 {x y:V3} {v w:V} {T:Addr} (rel:Rel κ F σ H) (hT:H T=none) (rx:Rep κ F.β F.O H x v) (ry:Rep κ F.β F.O H y w):Ext No F.β H F.β (zj H T (.tup [v,w]))∧Rel κ F σ (zj H T (.tup [v,w]))∧Rep κ F.β F.O (zj H T (.tup [v,w])) (.tup [x,y]) (.ref T):=by
 have q:=Post.tup (N:=No) rel hT (.cons rx (.cons ry .nil))
 exact ⟨yY hT,q.1,q.2⟩
theorem zfh {elts:List Expr} {x1} {tp:Pos} {t:A3} (hK:X.K=κ.K) (hg:Gl X "enumerate") (hm:X.mg "enumerate" =none) (ha:PA X [a] (zV κ E t)) (hs:starEach [a] X.env=[(false,eval a X.env)]:=by rfl):PI X (.Tuple elts x1 tp) (.Call (.Name "enumerate" np) [a] [] pos) (yC κ E (qy t)):=PIw (zuf hg hm ha hs) fun σ H R ⟨F,rel,o⟩=>
 (zY (K:=kA κ) km_I rel o).mono fun vs H1 ⟨β1,h1,fs,e1,⟨r1,rf⟩,o1⟩=>by
  match fs,rf,o1 with
  | [.x x],rf,o1=>
   obtain ⟨v,rfl,rv⟩:=p1 rf
   have rv:Rep κ β1 F.O H1 x v:=rv
   cases q:yj h1 x with
   | none=>simp only [q] at o1;exact o1.elim
   | some w=>
    obtain ⟨xs,ok⟩:=w
    simp only [q] at o1
    obtain ⟨c,ys,rfl,sq,rs⟩:=zds (F:=F.to β1 h1) q r1 rv (zdr q).1
    rw [hK]
    refine ⟨c,ys,rfl,sq,o1 β1 _ H1 Ext.refl ⟨r1,[.ref c],.cons rv .nil,fun F' σ' H' rel' r' hk i=>?_⟩⟩
    cases r' with
    | cons r'' _=>
     obtain ⟨c',ys',ec,sq',rs'⟩:=zds q rel' r'' hk
     cases ec
     have hl:=rs'.length
     have el:(((List.range xs.length).map fun k=>V3.tup [.int (k:Nat),xs.getD k .non])).length=xs.length:=by simp
     refine ⟨fun hi=>?_,fun hi=>⟨ys',sq',by rw [←hl];rw [el] at hi;exact hi⟩⟩
     rw [el] at hi
     obtain ⟨y,hy,ry⟩:=rs'.get (zy hi)
     refine ⟨⟨ys',y,sq',hy⟩,fun x' H'' yl=>?_⟩
     obtain ⟨T,z,rfl,hT,rfl,hz⟩:=yl
     have:=hz ys' sq'
     rw [hy] at this;cases this
     obtain ⟨q1,q2,q3⟩:=Rel.tup2 (x:= .int (i:Nat)) (v:= .int (i:Nat)) rel' hT (.int _) ry
     refine ⟨.tup [.int (i:Nat),xs[i]],?_,q1,q2,q3⟩
     simp [hi]
theorem zsz {elts:List Expr} {x1} {tp:Pos} {t:A3} (hK:X.K=κ.K) (hg:Gl X "zip") (hm:X.mg "zip" =none) (ha:PA X [a,b] (zV κ E t)) (hs:starEach [a,b] X.env=[(false,eval a X.env),(false,eval b X.env)]:=by rfl) (hs2:starEach [b] X.env=[(false,eval b X.env)]:=by rfl):PI X (.Tuple elts x1 tp) (.Call (.Name "zip" np) [a,b] [] pos) (yC κ E (zmy t)):=PIw (zx4 hg hm ha hs hs2) fun σ H R ⟨F,rel,o⟩=>
 (zY (K:=kA κ) km_I rel o).mono fun vs H1 ⟨β1,h1,fs,e1,⟨r1,rf⟩,o1⟩=>by
  match fs,rf,o1 with
  | [.x x,.x y],rf,o1=>
   obtain ⟨v,w,rfl,rv,rw'⟩:=p2 rf
   have rv:Rep κ β1 F.O H1 x v:=rv
   have rw':Rep κ β1 F.O H1 y w:=rw'
   cases q:yj h1 x with
   | none=>simp only [q] at o1;exact o1.elim
   | some w=>
    obtain ⟨xs,ok⟩:=w
    cases q2:yj h1 y with
    | none=>simp only [q,q2] at o1;exact o1.elim
    | some w'=>
     obtain ⟨ys,ok'⟩:=w'
     simp only [q,q2] at o1
     obtain ⟨c,us,rfl,sq,rs⟩:=zds (F:=F.to β1 h1) q r1 rv (zdr q).1
     obtain ⟨d,ws,rfl,sq2,rs2⟩:=zds (F:=F.to β1 h1) q2 r1 rw' (zdr q2).1
     rw [hK]
     refine ⟨c,d,us,ws,rfl,sq,sq2,o1 β1 _ H1 Ext.refl ⟨r1,[.ref c,.ref d],.cons rv (.cons rw' .nil),fun F' σ' H' rel' r' hk i=>?_⟩⟩
     cases r' with
     | cons ra r''=>
      cases r'' with
      | cons rb _=>
       obtain ⟨c',us',ec,sq',rs'⟩:=zds q rel' ra hk.1
       cases ec
       obtain ⟨d',ws',ed,sq2',rs2'⟩:=zds q2 rel' rb hk.2
       cases ed
       have hl:=rs'.length;have hl2:=rs2'.length
       have el:((xs.zip ys).map fun q=>V3.tup [q.1,q.2]).length=min xs.length ys.length:=by simp
       refine ⟨fun hi=>?_,fun hi=>⟨us',ws',sq',sq2',by rw [←hl,←hl2];rw [el] at hi;omega⟩⟩
       rw [el] at hi
       have h1:i < xs.length:=by omega
       have h2:i < ys.length:=by omega
       obtain ⟨y1,hy1,ry1⟩:=rs'.get (zy h1)
       obtain ⟨y2,hy2,ry2⟩:=rs2'.get (zy h2)
       refine ⟨⟨us',ws',y1,y2,sq',sq2',hy1,hy2⟩,fun x' H'' yl=>?_⟩
       obtain ⟨T,z1,z2,rfl,hT,rfl,hz1,hz2⟩:=yl
       have t1:=hz1 us' sq'
       have t2:=hz2 ws' sq2'
       rw [hy1] at t1;cases t1
       rw [hy2] at t2;cases t2
       obtain ⟨q1,q2,q3⟩:=Rel.tup2 rel' hT ry1 ry2
       refine ⟨.tup [xs[i],ys[i]],?_,q1,q2,q3⟩
       rw [List.getElem?_map,(List.getElem?_zip_eq_some (z:=(xs[i],ys[i]))).mpr ⟨zy h1,zy h2⟩];rfl
def yB (n:Nat) (fr:List Nat) (s:S3):S3:=List.replicate n none++fr.map fun j=>match s[j]? with
 | some (some (.v x))=>some (.v x)
 | _=>none
open Classical in
def yX (ok:H3→Prop) (g:G3) (c:T3) (e:E3):List V3→List V3→S3→H3→Res (List V3)
 | [],acc,_,h=>if ok h then .ok acc h else .no
 | x::r,acc,s,h=>if ok h then match g x s with
  | none=> .no
  | some s1=>match c s1 h with
   | .ok true h1=>match e s1 h1 with
    | .ok v h2=>match v.fz with
     | some y=>if acc.length < sizeLine then yX ok g c e r (acc++[y]) s1 h2 else .no
     | none=> .no
    | _=> .no
   | .ok false h1=>yX ok g c e r acc s1 h1
   | _=> .no
  else .no
def yS (n:Nat) (fr:List Nat) (it:I3) (g:G3) (c:T3) (e:E3):E3:=fun s h=>(it s h).bind fun I h1=>(yX I.ok g c e I.xs [] (yB n fr s) h1).bind fun vs h2=> .ok (.m (.lst vs)) h2
def tTru:T3:=fun _ h=> .ok true h
theorem ze8:PTs X [] (zL κ E tTru):=fun pins s σ H Q I ⟨F,rel,o⟩=>zu3 pins s σ H Q I (o F.β true H Ext.refl ⟨rfl,rel⟩)
theorem zis {c:Expr} {t:T3} (h:PT X c (zL κ E t)):PTs X [c] (zL κ E t):=zt0 h
theorem zd2 {β:List (Option Addr)} {d:Addr} {o:HO} (ho: ∃u,H d=some u):Ext (fun a=>a=d) β H β (zj H d o):=
 ⟨fun a u ha hn m=>⟨by rw [zR m];exact ha,hn⟩,Nat.le_refl _,fun _ _ _ h=>h,fun a u ha=>by
  by_cases z:a=d
  ·subst z;exact ⟨o,yD⟩
  ·exact ⟨u,by rw [zR z];exact ha⟩,nwb0⟩
theorem RelH.wrO {O:Addr→Prop} {β:List (Option Addr)} {h:H3} {d:Addr} {u:HO} (r:RelH κ O β h H) (hd:O d) (hu: ∀ys,u≠HO.tup ys:=by intro _ z;cases z):RelH κ O β h (zj H d u):=by
 have ex:=zd2 (β:=β) (o:=u) (r.trk' d hd)
 have th: ∀a w,H a=some w→(∀ys,w≠HO.tup ys)→∃w,zj H d u a=some w∧∀ys,w≠HO.tup ys:=fun a w q n=>by
  by_cases z:a=d
  ·subst z;exact ⟨u,yD,hu⟩
  ·exact ⟨w,by rw [zR z];exact q,n⟩
 refine ⟨r.len,r.inj,r.off,fun a ha=>let ⟨w,q,n⟩:=r.trk a ha;th a w q n,fun i a q=>let ⟨w,z,n⟩:=r.btr i a q;th a w z n,fun i c hc=>(r.cell i c hc).imp id fun ⟨a,ha,q⟩=>⟨a,ha,q.ext ex (fun b hb=>by rw [hb];exact hd) (fun _ _ _ n=>n) fun w hw=>?_⟩⟩
 rw [zR (fun z=>by subst z;exact r.off a hd (List.mem_of_getElem? ha))];exact hw
theorem Rel.wrOi {d:Addr} {u:HO} (r:Rel κ F σ H) (hd:F.Oi d) (hu: ∀ys,u≠HO.tup ys:=by intro _ z;cases z):Rel κ F σ (zj H d u) where
 heap:=r.heap.wrO (.inr (.inr hd)) hu
 slen:=r.slen
 llen:=r.llen
 linj:=r.linj
 lt:=r.lt
 lo:=r.lo
 to:=r.to
 tn:=r.tn
 slot:=fun i x q=>by
  have hO:F.O d:= .inr (.inr hd)
  have ex:=zd2 (β:=F.β) (o:=u) (r.heap.trk' d hO)
  obtain ⟨v,h1,h2⟩:=r.slot i x q
  refine ⟨v,h1,?_⟩
  cases x with
  | v x=>exact Rep.ext ex (fun b hb=>by rw [hb];exact hO) (fun _ _ _ n=>n) h2
  | m c=>
   obtain ⟨a,a1,a2,a3⟩:=h2
   refine ⟨a,a1,a2,a3.ext ex (fun b hb=>by rw [hb];exact hO) (fun _ _ _ n=>n) fun w hw=>?_⟩
   rw [zR (fun z=>by subst z;exact r.lo a (List.mem_of_getElem? a1) hd)];exact hw
theorem zpq {n:Nat} {fr:List Nat} {s:S3} {i:Nat} {x:Vl} (h:(yB n fr s)[i]? =some (some x)): ∃j y,fr[i - n]? =some j∧n≤i∧s[j]? =some (some (.v y))∧x= .v y:=by
 unfold yB at h
 by_cases hi:i < n
 ·rw [List.getElem?_append_left (by simpa using hi),List.getElem?_replicate] at h
  split at h <;> cases h
 ·rw [List.getElem?_append_right (by simpa using hi),List.length_replicate,List.getElem?_map] at h
  cases q:fr[i - n]? with
  | none=>rw [q] at h;cases h
  | some j=>
   rw [q] at h
   simp only [Option.map_some,Option.some.injEq] at h
   split at h
   ·rename_i y hy;cases h;exact ⟨j,y,rfl,by omega,hy,rfl⟩
   ·cases h
theorem zkl {n:Nat} {fr:List Nat} {it:I3} {g:G3} {c:T3} {d:E3} (h:zf κ E (yS n fr it g c d) σ H Q):zq6 (yC κ E it) n fr (yK κ g) (zL κ E0 c) (zf κ E0 d) σ H Q:=by
 obtain ⟨F,rel,o⟩:=h
 refine (zY (K:=kI κ) zS rel o).mono fun J H1 ⟨β1,h1,I,e1,⟨r1,vs,rv,ir⟩,o1⟩=>fun D hD=>?_
 have hDH:H D=none:=e1.nw D hD
 let Oi:Addr→Prop:=fun a=>a=D∨F.O a
 have rn:=(r1.new (o:= .lst []) hD)
 have rh1:RelH κ Oi β1 h1 (zj H1 D (.lst [])):=rn.1.heap.sub fun a ha=>ha.elim (fun z=> .inl (by rw [z];exact List.mem_cons_self)) fun z=>Fr.O_with z
 have hO1: ∀a u,H1 a=some u→¬F.O a→¬Oi a:=fun a u ha n z=>z.elim (fun w=>by subst w;rw [hD] at ha;cases ha) n
 let F0:Fr:=⟨Oi,[],β1,List.replicate (yB n fr F.s).length none,yB n fr F.s,h1⟩
 have sub0: ∀(F':Fr),F'.T=[]→(∀a,some a∉F'.l)→F'.Oi=Oi→∀a,F'.O a→Oi a:=fun F' t l oi a ha=>by
  rcases ha with z | z | z
  ·rw [t] at z;cases z
  ·exact absurd z (l a)
  ·rw [oi] at z;exact z
 have hlen:(yB n fr F.s).length=(cst n fr σ).length:=by unfold yB cst;simp
 have rel0:Rel κ F0 (cst n fr σ) (zj H1 D (.lst [])):=by
  refine ⟨rh1.sub (sub0 F0 rfl (fun a=>qU) rfl),hlen,?_,fun i j a h=>absurd (List.mem_of_getElem? h) qU,fun a ha=>absurd ha qU,fun a ha=>absurd ha qU,fun a ha=>(by cases ha),List.nodup_nil,fun i x hx=>?_⟩
  ·show (List.replicate (yB n fr F.s).length (none:Option Addr)).length=(yB n fr F.s).length
   simp
  ·obtain ⟨j,y,hj,hi,hy,rfl⟩:=zpq hx
   obtain ⟨v,hv,rv⟩:=r1.slot j _ hy
   refine ⟨v,?_,Rep.sub (sub0 F0 rfl (fun a=>qU) rfl) (Rep.ext (yY hD) (fun _ z=>z.elim) hO1 (show Rep κ β1 F.O H1 y v from rv))⟩
   unfold cst
   rw [List.getElem?_append_right (by simpa using hi),List.length_replicate,List.getElem?_map,hj]
   simp [hv]
 have rv0:Reps κ β1 Oi (zj H1 D (.lst [])) I.its vs:=rv.ext (yY hD) (fun _ z=>z.elim) hO1
 refine ⟨fun i m acc σ' H'=>m=I.xs.length - i∧i≤I.xs.length∧H' D=some (.lst acc)∧∃(F':Fr) (acc3:List V3),Rel κ F' σ' H'∧F'.T=[]∧(∀a,some a∉F'.l)∧F'.Oi=Oi∧Reps κ F'.β Oi H' I.its vs∧Reps κ F'.β Oi H' acc3 acc∧Ext No β1 H1 F'.β H'∧
   Out κ E (kE κ) (F.to β1 h1) σ H1 Q ((yX I.ok g c d (I.xs.drop i) acc3 F'.s F'.h).bind fun vs h2=> .ok (.m (.lst vs)) h2),
  ⟨_,rfl,Nat.zero_le _,yD,F0,[],rel0,rfl,fun a=>qU,rfl,rv0,.nil,yY hD,o1⟩,?_⟩
 rintro i m acc σ' H' ⟨rfl,hi,hacc,F',acc3,rel',ht,hl,hoi,rits,racc,ex,out⟩
 refine ⟨hacc,?_⟩
 have hO: ∀a,F'.O a↔Oi a:=fun a=>⟨sub0 F' ht hl hoi a,fun z=> .inr (.inr (by rw [hoi];exact z))⟩
 have eO:F'.O=Oi:=funext fun a=>propext (hO a)
 by_cases hok:I.ok F'.h
 case neg=>
  exfalso
  cases q:I.xs.drop i with
  | nil=>rw [q] at out;unfold yX at out;rw [if_neg hok] at out;exact out
  | cons x r=>rw [q] at out;unfold yX at out;rw [if_neg hok] at out;exact out
 obtain ⟨i1,i2⟩:=ir F' σ' H' rel' (by rw [eO];exact rits) hok i
 by_cases hlt:i < I.xs.length
 ·obtain ⟨go,yl⟩:=i1 hlt
  refine .inr ⟨go,fun acc' σ3 H5=>H5 D=some (.lst acc')∧∃(F':Fr) (acc3:List V3),Rel κ F' σ3 H5∧F'.T=[]∧(∀a,some a∉F'.l)∧F'.Oi=Oi∧Reps κ F'.β Oi H5 I.its vs∧Reps κ F'.β Oi H5 acc3 acc'∧Ext No β1 H1 F'.β H5∧
   Out κ E (kE κ) (F.to β1 h1) σ H1 Q ((yX I.ok g c d (I.xs.drop (i+1)) acc3 F'.s F'.h).bind fun vs h2=> .ok (.m (.lst vs)) h2),fun acc' σ3 H5 n5=>⟨_,by omega,rfl,hlt,n5⟩,fun x H2 y=>?_⟩
  obtain ⟨x3,ex3,ey,ry,rp⟩:=yl x H2 y
  have hd:I.xs.drop i=x3::I.xs.drop (i+1):=by
   rw [List.drop_eq_getElem_cons hlt]
   congr 1
   rw [zy hlt] at ex3
   exact Option.some.inj ex3
  rw [hd] at out
  unfold yX at out
  rw [if_pos hok] at out
  cases w:g x3 F'.s with
  | none=>simp only [w] at out;exact out.elim
  | some s1=>
   simp only [w] at out
   refine ⟨F',x3,s1,ry,ht,rp,w,fun F3 σ3 e3 b3 s3 h3 r3=>?_⟩
   have hl3: ∀a,some a∉F3.l:=fun a ha=>by
    rcases e3.lam a ha with z | z
    ·exact hl a z
    ·obtain ⟨k,hk⟩:=List.getElem?_of_mem ha
     obtain ⟨u,hu,_⟩:=r3.heap.trk a (.inr (.inl ha))
     rw [z] at hu;cases hu
   have hoi3:F3.Oi=Oi:=e3.oi.trans hoi
   have eO3:F3.O=Oi:=funext fun a=>propext ⟨sub0 F3 e3.tt hl3 hoi3 a,fun z=> .inr (.inr (by rw [hoi3];exact z))⟩
   refine ⟨F3,r3,?_⟩
   rw [s3,h3]
   cases q:c s1 F'.h with
   | no=>simp only [q] at out;exact out.elim
   | ex x h2=>simp only [q] at out;exact out.elim
   | ok cb h2=>
    simp only [q] at out
    rintro β4 cb' H4 e4 ⟨rfl,r4⟩
    have ex4:Ext No β1 H1 β4 H4:=(ex.trans0 ey).trans0 (by rw [b3] at e4;exact e4)
    have k4: ∀{x:List V3} {v:List V},Reps κ F'.β Oi H' x v→Reps κ β4 Oi H4 x v:=fun r=>(r.ext0 ey).ext0 (by rw [b3] at e4;exact e4)
    have hD2:H2 D=some (.lst acc):=(ey.keep D _ hacc (rel'.heap.off D ((hO D).mpr (.inl rfl))) fun z=>z).1
    have hD4:H4 D=some (.lst acc):=(e4.keep D _ hD2 (r3.heap.off D (by rw [eO3];exact .inl rfl)) fun z=>z).1
    cases cb' with
    | false=>rw [if_neg Bool.false_ne_true];exact ⟨hD4,F3.to β4 h2,acc3,r4,e3.tt,hl3,hoi3,k4 rits,k4 racc,ex4,by show Out _ _ _ _ _ _ _ ((yX I.ok g c d (I.xs.drop (i+1)) acc3 F3.s h2).bind _);rw [s3];exact out⟩
    | true=>
     rw [if_pos rfl]
     refine ⟨F3.to β4 h2,r4,?_⟩
     show Out κ E0 (kE κ) (F3.to β4 h2) σ3 H4 _ (d F3.s h2)
     rw [s3]
     cases q5:d s1 h2 with
     | no=>simp only [q5] at out;exact out.elim
     | ex x h5=>simp only [q5] at out;exact out.elim
     | ok r5 h5=>
      simp only [q5] at out
      intro β5 v5 H5 e5 p5
      cases z:r5.fz with
      | none=>simp only [z] at out;exact out.elim
      | some y5=>
       simp only [z] at out
       by_cases hsz:acc3.length < sizeLine
       ·rw [if_pos hsz] at out
        obtain ⟨r6,rep6⟩:=Post.fz p5 z
        have hD5:H5 D=some (.lst acc):=(e5.keep D _ hD4 (r4.heap.off D (.inr (.inr (by show F3.Oi D;rw [hoi3];exact .inl rfl)))) fun z=>z).1
        have ex6:Ext (fun a=>a=D) β5 H5 β5 (zj H5 D (.lst (acc++[v5]))):=zd2 ⟨_,hD5⟩
        have k6: ∀{x:List V3} {v:List V},Reps κ β5 Oi H5 x v→Reps κ β5 Oi (zj H5 D (.lst (acc++[v5]))) x v:=fun r=>r.ext ex6 (fun b hb=>by rw [hb];exact .inl rfl) fun _ _ _ n=>n
        have rep6:Rep κ β5 Oi H5 y5 v5:=by
         have e:((F3.to β4 h2).to β5 h5).O=Oi:=eO3
         have q:Rep κ β5 ((F3.to β4 h2).to β5 h5).O H5 y5 v5:=rep6
         rw [e] at q;exact q
        have k45: ∀{x:List V3} {v:List V},Reps κ β4 Oi H4 x v→Reps κ β5 Oi H5 x v:=fun r=>r.ext0 e5
        refine ⟨hD5,by rw [←racc.length];exact hsz,yD,(F3.to β4 h2).to β5 h5,acc3++[y5],Rel.wrOi r6 (by show F3.Oi D;rw [hoi3];exact .inl rfl),e3.tt,hl3,hoi3,k6 (k45 (k4 rits)),k6 ((k45 (k4 racc)).append (.cons rep6 .nil)),?_,?_⟩
        ·have e45:=ex4.trans0 e5
         refine ⟨fun a u ha hn _=>?_,e45.len,e45.bet,fun a u ha=>?_,e45.nwb⟩
         ·obtain ⟨q1,q2⟩:=e45.keep a u ha hn fun z=>z
          exact ⟨by rw [zR (fun z=>by subst z;rw [hD] at ha;cases ha)];exact q1,q2⟩
         ·obtain ⟨u',hu'⟩:=e45.there a u ha
          exact ex6.there a u' hu'
        ·show Out _ _ _ _ _ _ _ ((yX I.ok g c d (I.xs.drop (i+1)) (acc3++[y5]) F3.s h5).bind _)
         rw [s3];exact out
       ·rw [if_neg hsz] at out;exact out.elim
 ·have hi:i=I.xs.length:=by omega
  subst hi
  rw [List.drop_length] at out
  unfold yX at out
  rw [if_pos hok] at out
  refine .inl ⟨i2 (Nat.le_refl _),out F'.β (.ref D) H' ex ?_⟩
  have rh:RelH κ (fun a=>a=D∨(F.to β1 h1).O a) F'.β F'.h H':=rel'.heap.sub fun a ha=>(hO a).mpr ha
  refine ⟨D,rfl,Rel.nextNew (F:=F.to β1 h1) r1 ex rh hD,⟨acc,hacc,racc.sub fun a ha=>?_⟩,hD⟩
  rcases ha with z | z
  ·rcases List.mem_cons.mp z with z | z
   ·exact .inl z
   ·exact .inr (.inl z)
  ·exact .inr (.inr z)
theorem zhc {elt tg iter:Expr} {ifs:List Expr} {loc free:List Str} {fr:List Nat} {scope:Scope} {it:I3} {g:G3} {c:T3} {d:E3} (hc:X.calm=true) (S:CompScope X loc free fr scope) (hi:PI X tg iter (yC κ E it))
 (hg: ∀cl C s H ex,PG (yU X (loc++free) scope cl C s H ex) tg (yK κ g)) (ht: ∀cl C s H ex,PTs (yU X (loc++free) scope cl C s H ex) ifs (zL κ E0 c)) (he: ∀cl C s H ex,PE (yU X (loc++free) scope cl C s H ex) elt (zf κ E0 d))
 (hs: ∀x,foldedSetIterable iter X.env x=pure x:=by intro _;rfl):PE X (.ListComp elt [⟨tg,iter,ifs,0⟩] scope pos) (zf κ E (yS loc.length fr it g c d)):=yv (zu6 hc S hi hg ht he hs) fun _ _ _ h=>zkl h
theorem zfb {y:Str} {py spos:Pos} {elt tg iter:Expr} {ifs:List Expr} {loc free:List Str} {fr:List Nat} {scope:Scope} {it:I3} {g:G3} {c:T3} {d:E3} (hN:X.N.Nodup) (hi':X.N[i]? =some y) (hx:X.env.scope.names.lookup y=some .local) (hc:X.calm=true) (S:CompScope X loc free fr scope) (hi:PI X tg iter (yC κ E it))
 (hg: ∀cl C s H ex,PG (yU X (loc++free) scope cl C s H ex) tg (yK κ g)) (ht: ∀cl C s H ex,PTs (yU X (loc++free) scope cl C s H ex) ifs (zL κ E0 c)) (he: ∀cl C s H ex,PE (yU X (loc++free) scope cl C s H ex) elt (zf κ E0 d))
 (hs: ∀x,foldedSetIterable iter X.env x=pure x:=by intro _;rfl) (hsw:swapsWith (.ListComp elt [⟨tg,iter,ifs,0⟩] scope pos) (some (.Name y py)) spos.line X.env=pure true:=by rfl):
 PS X (.Assign [.Name y py] (.ListComp elt [⟨tg,iter,ifs,0⟩] scope pos) spos) (zx κ E (sSet i (yS loc.length fr it g c d))):=qp (zhs hN hi' hx hc S hi hg ht he hs hsw) fun D σ H h=>zkl (zoa h)
end
section
variable {X:Cx} {κ:Kx} {E:XK} {F F':Fr} {σ σ':L2.St} {H H1 H':Hp} {Q:VK} {p:Addr} {e a b c o:Expr} {pos apos np cpos:Pos} {i:Nat} {D:Ends}
def eNeg (p:P3):E3:=fun s h=>(p s h).bind fun f h1=>match f with
 | .x (.int i)=> .ok (.v (.int (-i))) h1
 | _=> .no
theorem zqi {d:P3} (ha:PE X a (zl κ E d)):PE X (.UnaryOp .USub a pos) (zf κ E (eNeg d)):=yv (zzk zyi ha) fun σ H Q ⟨F,rel,o⟩=>
 (zY (K:=kP κ) zS rel o).mono fun v H1 ⟨β1,h1,f,e1,⟨r1,rf⟩,o1⟩=>by
  match f,rf,o1 with
  | .x (.int i),rf,o1=>
   cases (show Rep κ β1 F.O H1 (.int i) v from rf)
   exact ⟨i,rfl,o1 β1 _ H1 Ext.refl ⟨r1,.int _⟩⟩
def eChain (f g:F2) (a b c:P3):E3:=fun s h=>(a s h).bind fun x h1=>(b s h1).bind fun y h2=>match f s h2 x y with
 | some (.v (.bl true))=>(c s h2).bind fun z h3=>opt h3 (g s h3 y z)
 | some (.v (.bl false))=> .ok (.v (.bl false)) h2
 | _=> .no
theorem zmn {r r':R2} {f g:F2} {da db dc:P3} (hs:OpSim κ r f) (hs':OpSim κ r' g) (h:zf κ E (eChain f g da db dc) σ H Q):zpg r r' (zl κ E da) (zl κ E db) (zl κ E dc) σ H Q:=by
 obtain ⟨F,rel,o⟩:=h
 refine (zY (K:=kP κ) zS rel o).mono fun v H1 ⟨β1,h1,f1,e1,⟨r1,rf1⟩,o1⟩=>?_
 refine (zY (F:=F.to β1 h1) (K:=kP κ) zS r1 o1).mono fun w H2 ⟨β2,h2,f2,e2,⟨r2,rf2⟩,o2⟩=>?_
 have rf1':=RfR.ext (F:=F.to β1 h1) (β':=β2) (h':=h2) r1 e2 rf1
 cases q:f F.s h2 f1 f2 with
 | none=>simp only [q] at o2;exact o2.elim
 | some z=>
  refine hs (F.to β2 h2) σ H2 f1 f2 z v w _ r2 rf1' rf2 q fun u H' e p=>?_
  match z,q,p with
  | .v (.bl true),q,p=>
   simp only [q] at o2
   cases (show Rep κ β2 F.O H' (.bl true) u from p.2)
   refine ⟨true,rfl,?_⟩
   rw [if_pos rfl]
   have o3:=Out.move (F:=F.to β2 h2) (h':=h2) zS e o2
   refine (zY (F:=F.to β2 h2) (K:=kP κ) zS p.1 o3).mono fun w3 H3 ⟨β3,h3,f3,e3,⟨r3,rf3⟩,o4⟩=>?_
   obtain ⟨z',q',k⟩:=Out.opt (F:=F.to β3 h3) rfl o4
   exact hs' (F.to β3 h3) σ H3 f2 f3 z' w w3 Q r3 (RfR.ext (F:=F.to β2 h2) (β':=β3) (h':=h3) p.1 e3 (RfR.ext (F:=F.to β2 h2) (β':=β2) (h':=h2) r2 e rf2)) rf3 q' k
  | .v (.bl false),q,p=>
   simp only [q] at o2
   cases (show Rep κ β2 F.O H' (.bl false) u from p.2)
   refine ⟨false,rfl,?_⟩
   rw [if_neg Bool.false_ne_true]
   exact o2 β2 _ H' e ⟨p.1,.bl _⟩
  | .v .non,q,p=>simp only [q] at o2;exact o2.elim
  | .v (.int _),q,p=>simp only [q] at o2;exact o2.elim
  | .v (.str _),q,p=>simp only [q] at o2;exact o2.elim
  | .v (.ty _),q,p=>simp only [q] at o2;exact o2.elim
  | .v (.tup _),q,p=>simp only [q] at o2;exact o2.elim
  | .v (.lst _),q,p=>simp only [q] at o2;exact o2.elim
  | .v (.scr _),q,p=>simp only [q] at o2;exact o2.elim
  | .v (.dK _),q,p=>simp only [q] at o2;exact o2.elim
  | .v (.dT _),q,p=>simp only [q] at o2;exact o2.elim
  | .v (.obj _ _),q,p=>simp only [q] at o2;exact o2.elim
  | .v (.cls _),q,p=>simp only [q] at o2;exact o2.elim
  | .v (.fn _ _),q,p=>simp only [q] at o2;exact o2.elim
  | .v (.loc _),q,p=>simp only [q] at o2;exact o2.elim
  | .m _,q,p=>simp only [q] at o2;exact o2.elim
theorem zv0 {op op':CmpOp} {r r':R2} {f g:F2} {da db dc:P3} (hs:OpSim κ r f) (hs':OpSim κ r' g) (ho:OpR X (compareOp op) r) (ho':OpR X (compareOp op') r') (ha:PE X a (zl κ E da)) (hb:PE X b (zl κ E db)) (hc:PE X c (zl κ E dc))
 (hm:lastMarks [op,op'] [b,c]=false:=by with_unfolding_all rfl):PE X (.Compare a [op,op'] [b,c] pos) (zf κ E (eChain f g da db dc)):=yv (zqq ho ho' ha hb hc hm) fun _ _ _ h=>zmn hs hs' h
theorem ze5 {op op':CmpOp} {r r':R2} {f g:F2} {da db dc:P3} (hs:OpSim κ r f) (hs':OpSim κ r' g) (ho:OpR X (compareOp op) r) (ho':OpR X (compareOp op') r') (ha:PE X a (zl κ E da)) (hb:PE X b (zl κ E db)) (hc:PE X c (zl κ E dc))
 (hm:lastMarks [op,op'] [b,c]=false:=by with_unfolding_all rfl):PT X (.Compare a [op,op'] [b,c] pos) (zL κ E (tE (eChain f g da db dc))):=PTw (zrk ho ho' ha hb hc hm) fun _ _ _ h=>zmn hs hs' (zn0 h)
noncomputable def wr3 (s:S3) (h:H3) (c:C3):Rf→Option (S3×H3)
 | .s i=>some (s.set i (some (.m c)),h)
 | .x (.loc n)=>some (s,h.set n c)
 | _=>none
theorem Rel.wrSlot {l:Addr} {c0 c':C3} {u:HO} (rel:Rel κ F σ H) (hl:F.l[i]? =some (some l)) (hs:F.s[i]? =some (some (.m c0))) (hc:CellR κ F.β F.O (zj H l u) c' l):
  Rel κ {F with s:=F.s.set i (some (.m c'))} σ (zj H l u):=by
 have hO:F.O l:= .inr (.inl (List.mem_of_getElem? hl))
 have ex:=zd2 (β:=F.β) (o:=u) (rel.heap.trk' l hO)
 refine ⟨rel.heap.wrO hO hc.nt,?_,?_,rel.linj,rel.lt,rel.lo,rel.to,rel.tn,fun j y hj=>?_⟩
 ·show (F.s.set i _).length=_;rw [List.length_set];exact rel.slen
 ·show F.l.length=(F.s.set i _).length;rw [List.length_set];exact rel.llen
 ·rcases qX hj with ⟨e1,e2⟩ | ⟨n,z⟩
  ·subst e1;cases e2
   obtain ⟨v,h1,a,h2,h3,_⟩:=rel.slot i _ hs
   rw [hl] at h2;cases h2
   exact ⟨v,h1,l,hl,h3,hc⟩
  ·obtain ⟨v,h1,h2⟩:=rel.slot j y z
   refine ⟨v,h1,?_⟩
   cases y with
   | v x=>exact Rep.ext ex (fun b hb=>by rw [hb];exact hO) (fun _ _ _ n=>n) h2
   | m c=>
    obtain ⟨a,a1,a2,a3⟩:=h2
    refine ⟨a,a1,a2,a3.ext ex (fun b hb=>by rw [hb];exact hO) (fun _ _ _ n=>n) fun w hw=>?_⟩
    rw [zR (fun z=>by subst z;exact n (rel.linj i j a hl a1))];exact hw
theorem zid {β:List (Option Addr)} {l:Addr} {o:HO} {n:Nat} (hb:β[n]? =some (some l)) (ho: ∃u,H l=some u):Ext No β H β (zj H l o):=
 ⟨fun a u ha hn _=>⟨by rw [zR (fun z=>by subst z;exact hn (List.mem_of_getElem? hb))];exact ha,hn⟩,Nat.le_refl _,fun _ _ _ h=>h,fun a u ha=>by
  by_cases z:a=l
  ·subst z;exact ⟨o,yD⟩
  ·exact ⟨u,by rw [zR z];exact ha⟩,nwb0⟩
theorem RelH.wrLoc {O:Addr→Prop} {β:List (Option Addr)} {h:H3} {l:Addr} {n:Nat} {c':C3} {u:HO} (r:RelH κ O β h H) (hb:β[n]? =some (some l)) (hc:CellR κ β O (zj H l u) c' l):RelH κ O β (h.set n c') (zj H l u):=by
 have ex:=zid (o:=u) hb (r.btr' n l hb)
 have th: ∀a w,H a=some w→(∀ys,w≠HO.tup ys)→∃w,zj H l u a=some w∧∀ys,w≠HO.tup ys:=fun a w q n=>by
  by_cases z:a=l
  ·subst z;exact ⟨u,yD,hc.nt⟩
  ·exact ⟨w,by rw [zR z];exact q,n⟩
 refine ⟨by rw [List.length_set];exact r.len,r.inj,r.off,fun a ha=>let ⟨w,q,n⟩:=r.trk a ha;th a w q n,fun i a q=>let ⟨w,z,n⟩:=r.btr i a q;th a w z n,fun i c hi=>?_⟩
 rcases qX hi with ⟨e1,e2⟩ | ⟨ne,z⟩
 ·subst e1;subst e2;exact .inr ⟨l,hb,hc⟩
 ·refine (r.cell i c z).imp id fun ⟨a,ha,q⟩=>⟨a,ha,q.ext ex (fun _ z=>z.elim) (fun _ _ _ n=>n) fun w hw=>?_⟩
  rw [zR (fun z=>by subst z;exact ne (r.inj n i a hb ha))];exact hw
theorem zlh {f:Rf} {v:V} {xs ys:List V3} {s':S3} {h':H3} (ht:F.T=[]) (rel:Rel κ F σ H) (r:RfR κ F H f v) (e:rdm F.s F.h f=some xs) (hw:wr3 F.s F.h (.lst ys) f=some (s',h')):
  ∃l us,v= .ref l∧H l=some (.lst us)∧Reps κ F.β F.O H xs us∧∀ws,Reps κ F.β F.O H ys ws→∃F',SExt F H F' (zj H l (.lst ws))∧F'.s=s'∧F'.h=h'∧Rel κ F' σ (zj H l (.lst ws)):=by
 cases f with
 | s i=>
  cases hw
  obtain ⟨a,c,h1,h2,h3,h4⟩:=r
  have e:rdl F.s F.h (.s i)=some xs:=e
  simp only [rdl,h3] at e
  cases c <;> simp at e
  subst e
  obtain ⟨us,h5,h6⟩:=h4
  have hO:F.O a:= .inr (.inl (List.mem_of_getElem? h1))
  refine ⟨a,us,h2,h5,h6,fun ws hr=>⟨{F with s:=F.s.set i (some (.m (.lst ys)))},⟨⟨fun b u hb hn m=>⟨by rw [zR (fun z=>by subst z;exact m (List.mem_of_getElem? h1))];exact hb,hn⟩,Nat.le_refl _,fun _ _ _ h=>h,(zd2 (β:=F.β) ⟨_,h5⟩).there,nwb0⟩,fun _ h=> .inl h,rfl,ht⟩,rfl,rfl,rel.wrSlot h1 h3 ⟨ws,yD,hr.ext (zd2 (β:=F.β) ⟨_,h5⟩) (fun b hb=>by rw [hb];exact hO) fun _ _ _ n=>n⟩⟩⟩
 | x y=>
  cases y <;> simp [wr3] at hw
  case loc n=>
   obtain ⟨rfl,rfl⟩:=hw
   cases r with
   | loc h1 h2=>
    have e:rdl F.s F.h (.x (.loc n))=some xs:=e
    simp only [rdl] at e
    cases q:F.h[n]? with
    | none=>rw [q] at e;cases e
    | some c=>
     rw [q] at e
     cases c <;> simp at e
     subst e
     rcases rel.heap.cell n _ q with z | ⟨a,ha,us,h5,h6⟩
     ·cases z
     ·have ex:=fun o=>zid (o:=o) ha ⟨_,h5⟩
      refine ⟨a,us,h2 a ha,h5,h6,fun ws hr=>⟨F.to F.β (F.h.set n (.lst ys)),SExt.of0 ht (ex _),rfl,rfl,rel.next (ex _) (rel.heap.wrLoc ha ⟨ws,yD,hr.ext0 (ex _)⟩)⟩⟩
abbrev FM:=List V3→List V3→Option (List V3×V3)
def mtO (op:FM) (p:P3) (a:A3) (k:S3→H3→V3→O3):D3:=fun s h=>(p s h).bindS fun f h1=>match rdm s h1 f with
 | none=> .no
 | some _=>(a s h1).bindS fun fs h2=>match vals3 fs,rdm s h2 f with
  | some vs,some xs=>match op xs vs with
   | some (ys,r)=>match wr3 s h2 (.lst ys) f with
    | some (s3,h3)=>k s3 h3 r
    | none=> .no
   | none=> .no
  | _,_=> .no
def qi (op:FM) (p:P3) (a:A3):D3:=mtO op p a fun s h _=> .nx s h
def zna (κ:Kx) (r:V→List V→Hp→VK→Prop) (op:FM):Prop:=∀(β:List (Option Addr)) (O:Addr→Prop) (H:Hp) (l:Addr) (xs ys vs:List V3) (us ws:List V) (rt:V3) (Q:VK),H l=some (.lst us)→Reps κ β O H xs us→Reps κ β O H vs ws→op xs vs=some (ys,rt)→
 (∀us' rt',Reps κ β O H ys us'→Rep κ β O H rt rt'→Q rt' (zj H l (.lst us')))→r (.ref l) ws H Q
theorem zs2 {r:V→List V→Hp→VK→Prop} {op:FM} {dp:P3} {da:A3} {k:S3→H3→V3→O3} (hs:zna κ r op) (rel:Rel κ F σ H) (ht:F.T=[]) (o:SOut κ E F H D (mtO op dp da k F.s F.h)) {Q:VK}
  (hQ: ∀F' rt Fm Hm v H3,SExt Fm Hm F' H3→F'.s.length=F.s.length→Rel κ F' σ H3→Rep κ F'.β F'.O H3 rt v→SOut κ E Fm Hm D (k F'.s F'.h rt)→Q v H3):
  tBM κ.K "list" r (zl κ E dp) (zV κ E da) σ H Q:=by
 refine (bindS (K:=kP κ) rel ht o).mono fun v H1 ⟨β1,h1,f,e1,⟨r1,rf⟩,o1⟩=>?_
 cases q:rdm F.s h1 f with
 | none=>simp only [q] at o1;exact o1.elim
 | some xs0=>
  simp only [q] at o1
  obtain ⟨a,ys,rfl,ha,_⟩:=zgm (F:=F.to β1 h1) r1 rf q
  refine ⟨.inl ⟨rfl,ys,.of ha⟩,?_⟩
  have s1:SExt F H (F.to β1 h1) H1:=SExt.of0 ht e1
  refine (bindS (F:=F.to β1 h1) (K:=kA κ) r1 ht (SOut.move s1 o1)).mono fun ws H2 ⟨β2,h2,fs,e2,⟨r2,rfs⟩,o2⟩=>?_
  have rf2:=RfR.ext (F:=F.to β1 h1) (β':=β2) (h':=h2) r1 e2 rf
  have s2:SExt (F.to β1 h1) H1 (F.to β2 h2) H2:=SExt.of0 (F:=F.to β1 h1) ht e2
  cases q1:vals3 fs with
  | none=>simp only [q1] at o2;exact o2.elim
  | some vs=>
   cases q2:rdm F.s h2 f with
   | none=>simp only [q1,q2] at o2;exact o2.elim
   | some xs=>
    simp only [q1,q2] at o2
    cases q3:op xs vs with
    | none=>simp only [q3] at o2;exact o2.elim
    | some w=>
     obtain ⟨zs,rt⟩:=w
     simp only [q3] at o2
     cases q4:wr3 F.s h2 (.lst zs) f with
     | none=>simp only [q4] at o2;exact o2.elim
     | some w=>
      obtain ⟨s3,h3⟩:=w
      simp only [q4] at o2
      obtain ⟨l,us,ev,hl,rs,wk⟩:=zlh (F:=F.to β2 h2) ht r2 rf2 q2 q4
      cases ev
      refine hs β2 F.O H2 a xs zs vs us ws rt _ hl rs (zdm rfs q1) q3 fun us' rt' r1' r2'=>?_
      obtain ⟨F',e',es,eh,rel'⟩:=wk us' r1'
      refine hQ F' rt (F.to β2 h2) H2 _ _ e' (by rw [rel'.slen,←rel.slen]) rel' (Rep.sext (F:=F.to β2 h2) e' r2') ?_
      rw [es,eh]
      exact SOut.move s2 o2
theorem qV {es:List Expr} {name:Str} {id:String} {r:V→List V→Hp→VK→Prop} {op:FM} {dp:P3} {da:A3} (hs:zna κ r op) (hK:X.K=κ.K) (slot:Slot "list" name id) (hty:typeOf (.builtin id)=pure (.type "method_descriptor")) (hm:MtR X id r) (ho:PE X o (zl κ E dp)) (ha:PA X (e::es) (zV κ E da))
  (hbase:attributeBase o name X.env (eval o X.env)=eval o X.env:=by rfl)
  (hfew:((backTo cpos (starEach (e::es) X.env)).all (fun x=> !x.1) && (backToKw cpos (keywordEach [] X.env)).all (fun x=>x.1.isSome)
   && decide ((e::es).length+([]:List Keyword).length+(if ([]:List Keyword).isEmpty then 0 else 1) < 30))=true:=by rfl)
  (hline:(apos.endLine==cpos.line)=true:=by rfl) (hst:starEach (e::es) X.env=(false,eval e X.env)::starEach es X.env:=by rfl) (hplain:(backTo cpos (starEach es X.env)).any (·.1)=false:=by rfl)
  (hsw:swapsWith (.Call (.Attribute o name apos) (e::es) [] cpos) none pos.line X.env=pure false:=by rfl):
  PS X (.Expr (.Call (.Attribute o name apos) (e::es) [] cpos) pos) (zx κ E (qi op dp da)):=qp (zkj (zz1 PySem.F.plainAttrs_list slot hty hm ho ha hbase hfew hline hst hplain) hsw) fun D σ H ⟨F,rel,ht,o⟩=>by
 rw [hK]
 exact zs2 hs rel ht o fun F' rt Fm Hm v H3 e' _ rel' _ o'=>o' F' σ H3 e' rfl rfl rel'
theorem zwn {name:Str} {id:String} {r:V→List V→Hp→VK→Prop} {op:FM} {dp:P3} (hs:zna κ r op) (hK:X.K=κ.K) (slot:Slot "list" name id) (hty:typeOf (.builtin id)=pure (.type "method_descriptor")) (hm:MtR X id r) (ho:PE X o (zl κ E dp))
  (hbase:attributeBase o name X.env (eval o X.env)=eval o X.env:=by rfl) (hline:(apos.endLine==cpos.line)=true:=by rfl) (hsw:swapsWith (.Call (.Attribute o name apos) [] [] cpos) none pos.line X.env=pure false:=by rfl):
  PS X (.Expr (.Call (.Attribute o name apos) [] [] cpos) pos) (zx κ E (qi op dp aNil)):=qp (zkj (zxv PySem.F.plainAttrs_list slot hty hm ho hbase hline) hsw) fun D σ H ⟨F,rel,ht,o⟩=>by
 rw [hK]
 refine tOf.mono (zs2 (Q:=fun _ H1=>D.nx σ H1) hs rel ht o fun F' rt Fm Hm v H3 e' _ rel' _ o'=>o' F' σ H3 e' rfl rfl rel') fun x H1 ⟨h1,F1,r1,h2⟩=>⟨h1,h2 F1.β [] H1 Ext.refl ⟨r1,.nil⟩⟩
noncomputable def yV:FM:=fun xs vs=>match vs with
 | [y]=>if xs.length < sizeLine then some (xs++[y],.non) else none
 | _=>none
theorem zbm:zna κ zn1 yV:=fun β O H l xs ys vs us ws rt Q hl rx rv e k=>by
 unfold yV at e
 split at e
 ·obtain ⟨h,e⟩:=qC e
  cases e
  cases rv with
  | cons a t=>cases t;exact ⟨l,us,_,rfl,rfl,hl,by rw [←rx.length];exact h,k _ _ (rx.append (.cons a .nil)) .non⟩
 ·cases e
noncomputable def mPop:FM:=fun xs vs=>match vs with
 | []=>match xs[xs.length - 1]? with
  | some y=>some (xs.dropLast,y)
  | none=>none
 | _=>none
theorem zwo:zna κ rPop mPop:=fun β O H l xs ys vs us ws rt Q hl rx rv e k=>by
 unfold mPop at e
 split at e
 ·cases rv
  cases q:xs[xs.length - 1]? with
  | none=>rw [q] at e;cases e
  | some y=>
   rw [q] at e;cases e
   obtain ⟨u,hu,ru⟩:=rx.get q
   exact ⟨l,us,u,rfl,rfl,hl,by rw [←rx.length];exact hu,k _ _ rx.dropLast ru⟩
 ·cases e
end
section
variable {X:Cx} {κ:Kx} {E:XK} {F F':Fr} {σ σ':L2.St} {H H1 H':Hp} {Q:VK} {p:Addr} {e a b c o:Expr} {pos apos np cpos:Pos} {i:Nat} {D:Ends}
noncomputable def zgr:FM:=fun xs vs=>match vs with
 | [.lst zs]=>if xs.length+zs.length≤sizeLine then some (xs++zs,.non) else none
 | _=>none
theorem zp2:zna κ zol zgr:=fun β O H l xs ys vs us ws rt Q hl rx rv e k=>by
 unfold zgr at e
 split at e
 ·obtain ⟨h,e⟩:=qC e
  cases e
  cases rv with
  | cons a t=>
   cases t
   cases a with
   | lst h1 h2 h3 h4=>exact ⟨l,_,us,_,rfl,rfl,hl,h1,by rw [←rx.length,←h4.length];exact h,k _ _ (rx.append h4) .non⟩
 ·cases e
def zgl (p i:P3) (e:E3):D3:=fun s h=>(e s h).bindS fun r h1=>match r.fz with
 | none=> .no
 | some y=>(p s h1).bindS fun f h2=>(i s h2).bindS fun j h3=>match j,rdm s h3 f with
  | .x (.int k),some xs=>match qf xs.length k with
   | some n=>match wr3 s h3 (.lst (xs.set n y)) f with
    | some (s',h')=> .nx s' h'
    | none=> .no
   | none=> .no
  | _,_=> .no
theorem zr5 {dp di:P3} {d:E3} (h:zx κ E (zgl dp di d) D σ H):tAsg (zf κ E d) (gSub (zl κ E dp) (zl κ E di) zt7) D σ H:=by
 obtain ⟨F,rel,ht,o⟩:=h
 refine (bindS (K:=kE κ) rel ht o).mono fun v H1 ⟨β1,h1,r,e1,p1,o1⟩=>?_
 cases z:r.fz with
 | none=>simp only [z] at o1;exact o1.elim
 | some y=>
  simp only [z] at o1
  obtain ⟨r1,ry⟩:=Post.fz p1 z
  have s1:SExt F H (F.to β1 h1) H1:=SExt.of0 ht e1
  refine (bindS (F:=F.to β1 h1) (K:=kP κ) r1 ht (SOut.move s1 o1)).mono fun ov H2 ⟨β2,h2,f,e2,⟨r2,rf⟩,o2⟩=>?_
  have s2:SExt (F.to β1 h1) H1 (F.to β2 h2) H2:=SExt.of0 (F:=F.to β1 h1) ht e2
  refine (bindS (F:=F.to β2 h2) (K:=kP κ) r2 ht (SOut.move s2 o2)).mono fun iv H3 ⟨β3,h3,j,e3,⟨r3,rj⟩,o3⟩=>?_
  have s3:SExt (F.to β2 h2) H2 (F.to β3 h3) H3:=SExt.of0 (F:=F.to β2 h2) ht e3
  have rf3:=RfR.ext (F:=F.to β2 h2) (β':=β3) (h':=h3) r2 e3 rf
  have ry3:Rep κ β3 F.O H3 y v:=(Rep.ext0 e3 (Rep.ext0 e2 ry))
  match j,rj,o3 with
  | .s _,rj,o3=>exact o3.elim
  | .x (.int k),rj,o3=>
   cases q:rdm F.s h3 f with
   | none=>simp only [q] at o3;exact o3.elim
   | some xs=>
    simp only [q] at o3
    cases q2:qf xs.length k with
    | none=>simp only [q2] at o3;exact o3.elim
    | some n=>
     simp only [q2] at o3
     cases q3:wr3 F.s h3 (.lst (xs.set n y)) f with
     | none=>simp only [q3] at o3;exact o3.elim
     | some w=>
      obtain ⟨s',h'⟩:=w
      simp only [q3] at o3
      obtain ⟨l,us,ev,hl,rs,wk⟩:=zlh (F:=F.to β3 h3) ht r3 rf3 q q3
      subst ev
      cases (show Rep κ β3 F.O H3 (.int k) iv from rj)
      obtain ⟨F',e',es,eh,rel'⟩:=wk (us.set n v) (rs.set ry3 n)
      exact ⟨l,us,k,n,rfl,rfl,hl,by rw [←rs.length];exact q2,SOut.move s3 o3 F' σ _ e' es eh rel'⟩
theorem zl0 {tp:Pos} {ii:Expr} {dp di:P3} {d:E3} (he:PE X e (zf κ E d)) (ho:PE X o (zl κ E dp)) (hi:PE X ii (zl κ E di))
 (hh: ∀{te to ti:TE},PE X e te→PE X o to→PE X ii ti→PS X (.Assign [.Subscript o ii tp] e pos) (tAsg te (gSub to ti zt7))):PS X (.Assign [.Subscript o ii tp] e pos) (zx κ E (zgl dp di d)):=qp (hh he ho hi) fun D σ H h=>zr5 h
noncomputable def qT (h:H3):Rf→Option (Str×List (Str×V3))
 | .x (.obj c fs)=>some (c,fs)
 | .x (.loc n)=>match h[n]? with
  | some (.ins c fs)=>some (c,fs)
  | _=>none
 | _=>none
theorem zmi {f:Rf} {v:V} {c:Str} {fs:List (Str×V3)} (rel:Rel κ F σ H) (r:RfR κ F H f v) (e:qT F.h f=some (c,fs)): ∃a C dx gs,v= .ref a∧κ.cl c=some C∧H a=some (.ins C dx gs)∧RepP κ F.β F.O H fs gs:=by
 cases f with
 | s i=>cases e
 | x y=>
  cases y <;> simp [qT] at e
  case obj c' fs'=>
   obtain ⟨rfl,rfl⟩:=e
   cases (show Rep κ F.β F.O H (.obj c' fs') v from r) with
   | obj h1 h2 h3 h4 h5=>exact ⟨_,_,_,_,rfl,h1,h2,h5⟩
  case loc n=>
   cases (show Rep κ F.β F.O H (.loc n) v from r) with
   | loc h1 h2=>
    cases q:F.h[n]? with
    | none=>rw [q] at e;cases e
    | some c0=>
     rw [q] at e
     cases c0 <;> simp at e
     obtain ⟨rfl,rfl⟩:=e
     rcases rel.heap.cell n _ q with z | ⟨a,ha,C,dx,gs,k1,k2,k3⟩
     ·cases z
     ·exact ⟨a,C,dx,gs,h2 a ha,k1,k2,k3⟩
def Flds (X:Cx) (κ:Kx) (cs:List Str) (f:Str):Prop:=∀c∈cs,∀C,κ.cl c=some C→Cls X.K C∧NoAttr X.K C f
theorem Flds.nil {f:Str}:Flds X κ [] f:=fun c hc=>by cases hc
def eFld (cs:List Str) (fl:Str) (p:P3):E3:=fun s h=>(p s h).bind fun f h1=>match qT h1 f with
 | some (c,fs)=>if c∈cs then match fs.lookup fl with
   | some x=> .ok (.v x) h1
   | none=> .no
  else .no
 | none=> .no
theorem zww {fl:Str} {cs:List Str} {d:P3} (hf:Flds X κ cs fl) (he:PE X e (zl κ E d)) (hb:attributeBase e fl X.env (eval e X.env)=eval e X.env:=by rfl):PE X (.Attribute e fl pos) (zf κ E (eFld cs fl d)):=yv (zx6 he hb) fun σ H Q ⟨F,rel,o⟩=>
 (zY (K:=kP κ) zS rel o).mono fun v H1 ⟨β1,h1,f,e1,⟨r1,rf⟩,o1⟩=>by
  cases q:qT h1 f with
  | none=>simp only [q] at o1;exact o1.elim
  | some w=>
   obtain ⟨c,fs⟩:=w
   simp only [q] at o1
   by_cases hc:c∈cs
   ·rw [if_pos hc] at o1
    cases q2:fs.lookup fl with
    | none=>simp only [q2] at o1;exact o1.elim
    | some x=>
     simp only [q2] at o1
     obtain ⟨a,C,dx,gs,rfl,k1,k2,k3⟩:=zmi (F:=F.to β1 h1) r1 rf q
     obtain ⟨y,hy,ry⟩:=k3.lookup q2
     exact ⟨a,C,dx,gs,y,rfl,k2,(hf c hc C k1).1,(hf c hc C k1).2,hy,o1 β1 y H1 Ext.refl ⟨r1,ry⟩⟩
   ·rw [if_neg hc] at o1;exact o1.elim
noncomputable def znk (f:Str) (v:V3):List (Str×V3)→List (Str×V3)
 | []=>[(f,v)]
 | (g,x)::r=>if g=f then (g,v)::r else (g,x)::znk f v r
theorem RepP.putF {β:List (Option Addr)} {O:Addr→Prop} {f:Str} {x:V3} {y:V} (r:Rep κ β O H x y): ∀{fs:List (Str×V3)} {gs:List (Str×V)},RepP κ β O H fs gs→RepP κ β O H (znk f x fs) (L2.putF f y gs)
 | _,_,.nil=> .cons r .nil
 | _,_,.cons (k:=k) q t=>by
  unfold znk L2.putF
  by_cases h:k=f
  ·rw [if_pos h,if_pos h];exact .cons r t
  ·rw [if_neg h,if_neg h];exact .cons q (RepP.putF r t)
def zqj (cs:List Str) (fl:Str) (p:P3) (e:E3):D3:=fun s h=>(e s h).bindS fun r h1=>match r.fz with
 | none=> .no
 | some y=>(p s h1).bindS fun f h2=>match f with
  | .x (.loc n)=>match h2[n]? with
   | some (.ins c fs)=>if c∈cs∧fs.length < 1000 then .nx s (h2.set n (.ins c (znk fl y fs))) else .no
   | _=> .no
  | _=> .no
theorem zs1 {fl:Str} {pos':Pos} {cs:List Str} {dp:P3} {d:E3} {value:Expr} (hf:Flds X κ cs fl) (ha:PE X o (zl κ E dp)) (hv:PE X value (zf κ E d)) (hs:swapsWith value (some (.Attribute o fl pos')) pos.line X.env=pure false:=by rfl):PS X (.Assign [.Attribute o fl pos'] value pos) (zx κ E (zqj cs fl dp d)):=qp (zx9 ha hv hs) fun D σ H ⟨F,rel,ht,o⟩=>by
 refine (bindS (K:=kE κ) rel ht o).mono fun v H1 ⟨β1,h1,r,e1,p1,o1⟩=>?_
 cases z:r.fz with
 | none=>simp only [z] at o1;exact o1.elim
 | some y=>
  simp only [z] at o1
  obtain ⟨r1,ry⟩:=Post.fz p1 z
  have s1:SExt F H (F.to β1 h1) H1:=SExt.of0 ht e1
  refine (bindS (F:=F.to β1 h1) (K:=kP κ) r1 ht (SOut.move s1 o1)).mono fun ov H2 ⟨β2,h2,f,e2,⟨r2,rf⟩,o2⟩=>?_
  have s2:SExt (F.to β1 h1) H1 (F.to β2 h2) H2:=SExt.of0 (F:=F.to β1 h1) ht e2
  have ry2:Rep κ β2 F.O H2 y v:=Rep.ext0 e2 ry
  match f,rf,o2 with
  | .x (.loc n),rf,o2=>
   cases q:h2[n]? with
   | none=>simp only [q] at o2;exact o2.elim
   | some c0=>
    match c0,q,o2 with
    | .ins c fs,q,o2=>
     simp only [q] at o2
     by_cases hc:c∈cs∧fs.length < 1000
     ·rw [if_pos hc] at o2
      cases (show Rep κ β2 F.O H2 (.loc n) ov from rf) with
      | loc l1 l2=>
       rcases r2.heap.cell n _ q with w | ⟨a,ha,C,dx,gs,k1,k2,k3⟩
       ·cases w
       ·have ev:=l2 a ha
        subst ev
        have ex:=fun o=>zid (H:=H2) (β:=β2) (o:=o) ha ⟨_,k2⟩
        refine ⟨a,C,dx,gs,rfl,k2,(hf c hc.1 C k1).1,(hf c hc.1 C k1).2,by rw [←k3.length];exact hc.2,?_⟩
        refine SOut.move s2 o2 (F.to β2 (h2.set n (.ins c (znk fl y fs)))) σ _ (SExt.of0 (F:=F.to β2 h2) ht (ex _)) rfl rfl ?_
        exact Rel.next (F:=F.to β2 h2) r2 (ex _) (r2.heap.wrLoc ha ⟨C,dx,_,k1,yD,(RepP.putF ry2 k3).ext0 (ex _)⟩)
     ·rw [if_neg hc] at o2;exact o2.elim
    | .lst _,q,o2=>simp only [q] at o2;exact o2.elim
    | .dK _,q,o2=>simp only [q] at o2;exact o2.elim
    | .dT _,q,o2=>simp only [q] at o2;exact o2.elim
    | .dead,q,o2=>simp only [q] at o2;exact o2.elim
def zix (c m:Str) (f:F3) (p:P3) (a:A3):E3:=fun s h=>(p s h).bind fun g h1=>match g,qT h1 g with
 | .x x,some (c',fs)=>if c'=c∧fs.lookup m=none then (a s h1).bind fun gs h2=>match vals3 gs with
   | some vs=>f (x::vs) h2
   | none=> .no
  else .no
 | _,_=> .no
theorem zvm {C:Addr} {c m:Str} {f:F3} {dp:P3} {t:A3} {k:Nat} (hC:κ.cl c=some C) (hf:zE f k) (h:zf κ E (zix c m f dp t) σ H Q):zwk C m (zB κ k f) [] E (zl κ E dp) (zV κ E t) σ H Q:=by
 obtain ⟨F,rel,o⟩:=h
 refine (zY (K:=kP κ) zS rel o).mono fun v H1 ⟨β1,h1,g,e1,⟨r1,rf⟩,o1⟩=>?_
 match g,rf,o1 with
 | .s i,rf,o1=>exact o1.elim
 | .x x,rf,o1=>
  cases q:qT h1 (.x x) with
  | none=>simp only [q] at o1;exact o1.elim
  | some w=>
   obtain ⟨c',fs⟩:=w
   simp only [q] at o1
   by_cases hc:c'=c∧fs.lookup m=none
   ·rw [if_pos hc] at o1
    obtain ⟨a,C',dx,gs,rfl,k1,k2,k3⟩:=zmi (F:=F.to β1 h1) r1 rf q
    rw [hc.1,hC] at k1;cases k1
    refine ⟨a,dx,gs,rfl,k2,k3.lookup_none hc.2,?_⟩
    refine (zY (F:=F.to β1 h1) (K:=kA κ) zS r1 o1).mono fun vs H2 ⟨β2,h2,fs2,e2,⟨r2,rf2⟩,o2⟩=>?_
    cases q2:vals3 fs2 with
    | none=>simp only [q2] at o2;exact o2.elim
    | some xs=>
     simp only [q2] at o2
     have hr:=zdm rf2 q2
     have rx:Rep κ β2 F.O H2 x (.ref a):=Rep.ext0 e2 rf
     rw [List.append_nil]
     refine ⟨F.O,β2,x::xs,h2,?_,r2.heap,.cons rx hr,FOut.of (F:=F.to β2 h2) r2 o2⟩
     refine Classical.byContradiction fun n=>?_
     rw [hf (x::xs) h2 (by rw [List.length_cons,hr.length];exact n)] at o2
     exact o2
   ·rw [if_neg hc] at o1;exact o1.elim
theorem zw5 {C fa:Addr} {c m:Str} {es:List Expr} {f:F3} {dp:P3} {t:A3} {k:Nat} {fd:FuncData} {ps:List Str} {n:Nat} {pl:Sem Bool} (hC:κ.cl c=some C) (hf:zE f n) (he:PE X o (zl κ E dp)) (cl:Cls X.K C) (hm:Meth X.K C m fa) (Fk:FnOk X.prog X.w X.K X.mg X.base (XT X.prog X.w) k fa fd ps (zB κ n f)) (hr:Room k X.A) (hb:Binds X.K fd ps []) (hx:zef (XT X.prog X.w) X E)
 (ha:PA X (e::es) (zV κ E t)) (hst:starEach (e::es) X.env=(false,eval e X.env)::starEach es X.env:=by rfl) (hpl:(backTo pos (starEach es X.env)).any (·.1)=false:=by rfl)
 (ht:eval (.Call (.Attribute o m apos) (e::es) [] pos) X.env=(do
  let ov ←eval o X.env
  standAt apos.atName
  let (f,first) ←holding [ov] (getMethod ov m pl)
  callWith pos f first (backTo pos (starEach (e::es) X.env)) (backToKw pos (keywordEach [] X.env))):=by rfl):
 PE X (.Call (.Attribute o m apos) (e::es) [] pos) (zf κ E (zix c m f dp t)):=yv (zuc he cl hm Fk hr hb .nil hx ha hst hpl ht) fun _ _ _ h=>zvm hC hf h
def eNew (c:Str) (f:F3) (a:A3):E3:=fun s h=>(a s h).bind fun fs h1=>match vals3 fs with
 | some vs=>match f (.loc h1.length::vs) (h1++[.ins c []]) with
  | .ok (.v .non) h2=> .ok (.v (.loc h1.length)) h2
  | .ex x h2=> .ex x h2
  | _=> .no
 | none=> .no
theorem zwi {C:Addr} {c:Str} {f:F3} {t:A3} {k:Nat} (hC:κ.cl c=some C) (hf:zE f k) (h:zf κ E (eNew c f t) σ H Q):zyp C (zB κ k f) [] E (zV κ E t) σ H Q:=by
 obtain ⟨F,rel,o⟩:=h
 refine (zY (K:=kA κ) zS rel o).mono fun vs H1 ⟨β1,h1,fs,e1,⟨r1,rf1⟩,o1⟩=>fun x dx hx hdx hne=>?_
 cases q:vals3 fs with
 | none=>simp only [q] at o1;exact o1.elim
 | some xs=>
  simp only [q] at o1
  have hr:Reps κ β1 F.O H1 xs vs:=zdm (F:=F.to β1 h1) rf1 q
  have hl:β1.length=h1.length:=r1.heap.len
  have hdx2:(zj H1 dx (.own x)) x=none:=by rw [zR (Ne.symm hne)];exact hx
  have kp: ∀a u,H1 a=some u→(zj (zj H1 dx (.own x)) x (.ins C dx [])) a=some u:=fun a u ha=>by rw [zR (y0 ha hx),zR (y0 ha hdx)];exact ha
  obtain ⟨nx,nO⟩:=r1.heap.off_new hx
  have ex:Ext No β1 H1 (β1++[some x]) (zj (zj H1 dx (.own x)) x (.ins C dx [])):=⟨fun a u ha hn _=>⟨kp a u ha,fun z=>by
    rcases List.mem_append.mp z with z | z
    ·exact hn z
    ·have:=List.mem_singleton.mp z
     cases this
     rw [hx] at ha;cases ha⟩,by simp,fun i a hi h=>by rw [List.getElem?_append_left hi] at h;exact h,fun a u ha=>⟨u,kp a u ha⟩,fun i a hi h=>by
    rw [List.getElem?_append_right hi] at h
    have:a=x:=by have:=List.mem_of_getElem? h;simp at this;exact this
    rw [this];exact hx⟩
  have rh:RelH κ F.O (β1++[some x]) (h1++[.ins c []]) (zj (zj H1 dx (.own x)) x (.ins C dx [])):=by
   refine ⟨by simp [hl],fun i j a h1' h2'=>?_,fun a ha z=>?_,fun a ha=>let ⟨u,q,n⟩:=r1.heap.trk a ha;⟨u,kp a u q,n⟩,fun i a q=>?_,fun i c' hc=>?_⟩
   ·rcases Nat.lt_or_ge i β1.length with hi | hi <;> rcases Nat.lt_or_ge j β1.length with hj | hj
    ·rw [List.getElem?_append_left hi] at h1';rw [List.getElem?_append_left hj] at h2';exact r1.heap.inj i j a h1' h2'
    ·rw [List.getElem?_append_left hi] at h1';rw [List.getElem?_append_right hj] at h2'
     have:a=x:=by
      have:=List.mem_of_getElem? h2';simp at this;exact this
     subst this;exact absurd (List.mem_of_getElem? h1') nx
    ·rw [List.getElem?_append_right hi] at h1';rw [List.getElem?_append_left hj] at h2'
     have:a=x:=by
      have:=List.mem_of_getElem? h1';simp at this;exact this
     subst this;exact absurd (List.mem_of_getElem? h2') nx
    ·have hi2:i < (β1++[some x]).length:=(List.getElem?_eq_some_iff.mp h1').1
     have hj2:j < (β1++[some x]).length:=(List.getElem?_eq_some_iff.mp h2').1
     simp at hi2 hj2;omega
   ·rcases List.mem_append.mp z with z | z
    ·exact r1.heap.off a ha z
    ·have:=List.mem_singleton.mp z
     cases this;exact nO ha
   ·rcases Nat.lt_or_ge i β1.length with hi | hi
    ·rw [List.getElem?_append_left hi] at q
     obtain ⟨u,hu,n⟩:=r1.heap.btr i a q
     exact ⟨u,kp a u hu,n⟩
    ·rw [List.getElem?_append_right hi] at q
     have:a=x:=by have:=List.mem_of_getElem? q;simp at this;exact this
     subst this;exact ⟨_,yD,by intro _ z;cases z⟩
   ·rcases Nat.lt_or_ge i h1.length with hi | hi
    ·rw [List.getElem?_append_left hi] at hc
     refine (r1.heap.cell i c' hc).imp id fun ⟨a,ha,q⟩=>⟨a,by rw [List.getElem?_append_left (by rw [hl];exact hi)];exact ha,q.ext ex (fun _ z=>z.elim) (fun _ _ _ n=>n) fun u hu=>kp a u hu⟩
    ·rw [List.getElem?_append_right hi] at hc
     have hi2:i - h1.length=0:=by
      have:=(List.getElem?_eq_some_iff.mp hc).1;simp at this;exact this
     rw [hi2] at hc;cases hc
     have ei:i=h1.length:=by omega
     subst ei
     exact .inr ⟨x,by rw [←hl];simp,C,dx,[],hC,yD,.nil⟩
  have rloc:Rep κ (β1++[some x]) F.O (zj (zj H1 dx (.own x)) x (.ins C dx [])) (.loc h1.length) (.ref x):= .loc (by simp [hl]) fun a ha=>by rw [←hl] at ha;simp at ha;rw [ha]
  rw [List.append_nil]
  refine ⟨F.O,β1++[some x],.loc h1.length::xs,h1++[.ins c []],?_,rh,.cons rloc (hr.ext0 ex),?_⟩
  ·refine Classical.byContradiction fun n=>?_
   rw [hf (.loc h1.length::xs) _ (by rw [List.length_cons,hr.length];exact n)] at o1
   exact o1
  ·cases q2:f (.loc h1.length::xs) (h1++[.ins c []]) with
   | no=>simp only [q2] at o1;exact o1
   | ex x' h2=>simp only [q2] at o1;exact fun β' H' e' r'=>o1 β' H' (ex.trans0 e') (r'.sub fun a ha=> .inr (.inr ha))
   | ok r h2=>
    match r,q2 with
    | .v .non,q2=>
     simp only [q2] at o1
     intro β' v H' e' pf
     obtain ⟨rh',rn⟩:=pf
     cases rn
     refine ⟨rfl,o1 β' (.ref x) H' (ex.trans0 e') ⟨Rel.next (F:=F.to β1 h1) r1 (ex.trans0 e') rh',.loc ?_ fun a ha=>?_⟩⟩
     ·show h1.length < β'.length;have:=e'.len;simp at this;omega
     ·have:=e'.bet h1.length a (by simp [hl]) ha
      rw [←hl] at this;simp at this;rw [this]
    | .m _,q2=>simp only [q2] at o1;exact o1.elim
    | .v (.bl _),q2=>simp only [q2] at o1;exact o1.elim
    | .v (.int _),q2=>simp only [q2] at o1;exact o1.elim
    | .v (.str _),q2=>simp only [q2] at o1;exact o1.elim
    | .v (.ty _),q2=>simp only [q2] at o1;exact o1.elim
    | .v (.tup _),q2=>simp only [q2] at o1;exact o1.elim
    | .v (.lst _),q2=>simp only [q2] at o1;exact o1.elim
    | .v (.scr _),q2=>simp only [q2] at o1;exact o1.elim
    | .v (.dK _),q2=>simp only [q2] at o1;exact o1.elim
    | .v (.dT _),q2=>simp only [q2] at o1;exact o1.elim
    | .v (.obj _ _),q2=>simp only [q2] at o1;exact o1.elim
    | .v (.cls _),q2=>simp only [q2] at o1;exact o1.elim
    | .v (.fn _ _),q2=>simp only [q2] at o1;exact o1.elim
    | .v (.loc _),q2=>simp only [q2] at o1;exact o1.elim
theorem zz7 {C fI:Addr} {c x:Str} {es:List Expr} {f:F3} {t:A3} {k:Nat} {fd:FuncData} {ps:List Str} {n:Nat} (hC:κ.cl c=some C) (hf:zE f n) (M:Mk X.K C fI) (Fk:FnOk X.prog X.w X.K X.mg X.base (XT X.prog X.w) k fI fd ps (zB κ n f)) (hr:Room (k+1) X.A) (hg:Gl X x) (hm:X.mg x=some (.ref C)) (hb:Binds X.K fd ps []) (hx:zef (XT X.prog X.w) X E)
 (ha:PA X (e::es) (zV κ E t)) (hdb:(x==("__debug__" :Str))=false:=by decide) (he:starEach (e::es) X.env=(false,eval e X.env)::starEach es X.env:=by rfl) (hpl:(backTo pos (starEach es X.env)).any (·.1)=false:=by rfl):
 PE X (.Call (.Name x np) (e::es) [] pos) (zf κ E (eNew c f t)):=yv (zth M Fk hr hg hm hb .nil hx ha hdb he hpl) fun _ _ _ h=>zwi hC hf h
end
mutual
noncomputable def low (n:Nat):V3→Bool
 | .loc m=>decide (m < n)
 | .tup xs=>lows n xs
 | .lst xs=>lows n xs
 | .dK kvs=>lowK n kvs
 | .dT kvs=>lowT n kvs
 | .obj _ fs=>lowF n fs
 | .fn _ env=>lows n env
 | _=>true
noncomputable def lows (n:Nat):List V3→Bool
 | []=>true
 | x::r=>low n x && lows n r
noncomputable def lowK (n:Nat):List (zq×V3)→Bool
 | []=>true
 | (_,x)::r=>low n x && lowK n r
noncomputable def lowT (n:Nat):List (MK×V3)→Bool
 | []=>true
 | (_,x)::r=>low n x && lowT n r
noncomputable def lowF (n:Nat):List (Str×V3)→Bool
 | []=>true
 | (_,x)::r=>low n x && lowF n r
end
section
variable {X:Cx} {κ:Kx} {E:XK} {F F':Fr} {σ σ':L2.St} {H H1 H':Hp} {Q:VK} {p:Addr} {e a b c o:Expr} {pos apos np cpos:Pos} {i:Nat} {D:Ends} {β:List (Option Addr)} {O:Addr→Prop}
def yk {α:Type} (n:Nat) (kvs:List (α×V3)):Prop:=∀kv∈kvs,low n kv.2=true
theorem lowK_iff {n:Nat}: ∀{kvs:List (zq×V3)},lowK n kvs=true↔yk n kvs
 | []=>by simp [lowK,yk]
 | (k,x)::r=>by simp [lowK,yk,Bool.and_eq_true,lowK_iff (kvs:=r)]
theorem lowT_iff {n:Nat}: ∀{kvs:List (MK×V3)},lowT n kvs=true↔yk n kvs
 | []=>by simp [lowT,yk]
 | (k,x)::r=>by simp [lowT,yk,Bool.and_eq_true,lowT_iff (kvs:=r)]
theorem lowF_iff {n:Nat}: ∀{kvs:List (Str×V3)},lowF n kvs=true↔yk n kvs
 | []=>by simp [lowF,yk]
 | (k,x)::r=>by simp [lowF,yk,Bool.and_eq_true,lowF_iff (kvs:=r)]
mutual
theorem Rep.low: ∀{x:V3} {v:V},Rep κ β O H x v→low β.length x=true
 | _,_,.non=>by simp [L3.low]
 | _,_,.bl _=>by simp [L3.low]
 | _,_,.int _=>by simp [L3.low]
 | _,_,.str _=>by simp [L3.low]
 | _,_,.ty _=>by simp [L3.low]
 | _,_,.tup _ _ _ r=>by simp only [L3.low];exact Reps.low r
 | _,_,.lst _ _ _ r=>by simp only [L3.low];exact Reps.low r
 | _,_,.scr _ _ _=>by simp [L3.low]
 | _,_,.scrK _=>by simp [L3.low]
 | _,_,.dK _ _ _ r=>by simp only [L3.low];exact lowK_iff.mpr (RepP.low r)
 | _,_,.dT _ _ _ r=>by simp only [L3.low];exact lowT_iff.mpr (RepP.low r)
 | _,_,.obj _ _ _ _ r=>by simp only [L3.low];exact lowF_iff.mpr (RepP.low r)
 | _,_,.cls _=>by simp [L3.low]
 | _,_,.loc h _=>by simp [L3.low,h]
theorem Reps.low: ∀{x:List V3} {v:List V},Reps κ β O H x v→lows β.length x=true
 | _,_,.nil=>by simp [L3.lows]
 | _,_,.cons a r=>by simp only [L3.lows,Bool.and_eq_true];exact ⟨Rep.low a,Reps.low r⟩
theorem RepP.low: ∀{α:Type} {x:List (α×V3)} {v:List (α×V)},RepP κ β O H x v→yk β.length x
 | _,_,_,.nil=>fun kv h=>by cases h
 | _,_,_,.cons a r=>fun kv h=>by
  rcases List.mem_cons.mp h with z | z
  ·rw [z];exact Rep.low a
  ·exact RepP.low r kv z
end
mutual
theorem Rep.cut {n:Nat}: ∀{x:V3} {v:V},Rep κ β O H x v→low n x=true→Rep κ (β.take n) O H x v
 | _,_,.non,_=> .non
 | _,_,.bl b,_=> .bl b
 | _,_,.int i,_=> .int i
 | _,_,.str x,_=> .str x
 | _,_,.ty x,_=> .ty x
 | _,_,.tup h1 h2 h3 r,l=> .tup h1 (fun z=>h2 (List.mem_of_mem_take z)) h3 (Reps.cut r (by simpa only [L3.low] using l))
 | _,_,.lst h1 h2 h3 r,l=> .lst h1 (fun z=>h2 (List.mem_of_mem_take z)) h3 (Reps.cut r (by simpa only [L3.low] using l))
 | _,_,.scr h1 h2 h3,_=> .scr h1 (fun z=>h2 (List.mem_of_mem_take z)) h3
 | _,_,.scrK h,_=> .scrK h
 | _,_,.dK h1 h2 h3 r,l=> .dK h1 (fun z=>h2 (List.mem_of_mem_take z)) h3 (RepP.cut r (lowK_iff.mp (by simpa only [L3.low] using l)))
 | _,_,.dT h1 h2 h3 r,l=> .dT h1 (fun z=>h2 (List.mem_of_mem_take z)) h3 (RepP.cut r (lowT_iff.mp (by simpa only [L3.low] using l)))
 | _,_,.obj h0 h1 h2 h3 r,l=> .obj h0 h1 (fun z=>h2 (List.mem_of_mem_take z)) h3 (RepP.cut r (lowF_iff.mp (by simpa only [L3.low] using l)))
 | _,_,.cls h,_=> .cls h
 | _,_,.loc (n:=m) h1 h2,l=>by
  have hm:m < n:=by simpa [L3.low] using l
  exact .loc (by rw [List.length_take];omega) fun a ha=>h2 a (by rw [List.getElem?_take_of_lt hm] at ha;exact ha)
theorem Reps.cut {n:Nat}: ∀{x:List V3} {v:List V},Reps κ β O H x v→lows n x=true→Reps κ (β.take n) O H x v
 | _,_,.nil,_=> .nil
 | _,_,.cons a r,l=>by
  simp only [L3.lows,Bool.and_eq_true] at l
  exact .cons (Rep.cut a l.1) (Reps.cut r l.2)
theorem RepP.cut {n:Nat}: ∀{α:Type} {x:List (α×V3)} {v:List (α×V)},RepP κ β O H x v→yk n x→RepP κ (β.take n) O H x v
 | _,_,_,.nil,_=> .nil
 | _,_,_,.cons a r,l=> .cons (Rep.cut a (l _ List.mem_cons_self)) (RepP.cut r fun kv h=>l kv (List.mem_cons_of_mem _ h))
end
def lowC (n:Nat):C3→Prop
 | .lst xs=>lows n xs=true
 | .dK kvs=>yk n kvs
 | .dT kvs=>yk n kvs
 | .ins _ fs=>yk n fs
 | .dead=>True
theorem CellR.low {c:C3} {a:Addr} (r:CellR κ β O H c a):lowC β.length c:=by
 cases c with
 | lst xs=>obtain ⟨_,_,r⟩:=r;exact r.low
 | dK xs=>obtain ⟨_,_,r⟩:=r;exact r.low
 | dT xs=>obtain ⟨_,_,r⟩:=r;exact r.low
 | ins c fs=>obtain ⟨_,_,_,_,_,r⟩:=r;exact r.low
 | dead=>exact r.elim
theorem CellR.cut {c:C3} {a:Addr} {n:Nat} (r:CellR κ β O H c a) (l:lowC n c):CellR κ (β.take n) O H c a:=by
 cases c with
 | lst xs=>obtain ⟨_,q,r⟩:=r;exact ⟨_,q,r.cut l⟩
 | dK xs=>obtain ⟨_,q,r⟩:=r;exact ⟨_,q,r.cut l⟩
 | dT xs=>obtain ⟨_,q,r⟩:=r;exact ⟨_,q,r.cut l⟩
 | ins c fs=>obtain ⟨_,_,_,k,q,r⟩:=r;exact ⟨_,_,_,k,q,r.cut l⟩
 | dead=>exact r.elim
mutual
theorem Rep.addO {x:Addr} (hx:some x∈β): ∀{v:V3} {w:V},Rep κ β O H v w→Rep κ β (fun a=>a=x∨O a) H v w
 | _,_,.non=> .non
 | _,_,.bl b=> .bl b
 | _,_,.int i=> .int i
 | _,_,.str x=> .str x
 | _,_,.ty x=> .ty x
 | _,_,.tup h1 h2 h3 r=> .tup h1 h2 (fun z=>z.elim (fun e=>h2 (by rw [e];exact hx)) h3) (Reps.addO hx r)
 | _,_,.lst h1 h2 h3 r=> .lst h1 h2 (fun z=>z.elim (fun e=>h2 (by rw [e];exact hx)) h3) (Reps.addO hx r)
 | _,_,.scr h1 h2 h3=> .scr h1 h2 (fun z=>z.elim (fun e=>h2 (by rw [e];exact hx)) h3)
 | _,_,.scrK h=> .scrK h
 | _,_,.dK h1 h2 h3 r=> .dK h1 h2 (fun z=>z.elim (fun e=>h2 (by rw [e];exact hx)) h3) (RepP.addO hx r)
 | _,_,.dT h1 h2 h3 r=> .dT h1 h2 (fun z=>z.elim (fun e=>h2 (by rw [e];exact hx)) h3) (RepP.addO hx r)
 | _,_,.obj h0 h1 h2 h3 r=> .obj h0 h1 h2 (fun z=>z.elim (fun e=>h2 (by rw [e];exact hx)) h3) (RepP.addO hx r)
 | _,_,.cls h=> .cls h
 | _,_,.loc h1 h2=> .loc h1 h2
theorem Reps.addO {x:Addr} (hx:some x∈β): ∀{v:List V3} {w:List V},Reps κ β O H v w→Reps κ β (fun a=>a=x∨O a) H v w
 | _,_,.nil=> .nil
 | _,_,.cons a r=> .cons (Rep.addO hx a) (Reps.addO hx r)
theorem RepP.addO {x:Addr} (hx:some x∈β): ∀{α:Type} {v:List (α×V3)} {w:List (α×V)},RepP κ β O H v w→RepP κ β (fun a=>a=x∨O a) H v w
 | _,_,_,.nil=> .nil
 | _,_,_,.cons a r=> .cons (Rep.addO hx a) (RepP.addO hx r)
end
theorem CellR.addO {c:C3} {a x:Addr} (hx:some x∈β) (r:CellR κ β O H c a):CellR κ β (fun a=>a=x∨O a) H c a:=by
 cases c with
 | lst xs=>obtain ⟨_,q,r⟩:=r;exact ⟨_,q,r.addO hx⟩
 | dK xs=>obtain ⟨_,q,r⟩:=r;exact ⟨_,q,r.addO hx⟩
 | dT xs=>obtain ⟨_,q,r⟩:=r;exact ⟨_,q,r.addO hx⟩
 | ins c fs=>obtain ⟨_,_,_,k,q,r⟩:=r;exact ⟨_,_,_,k,q,r.addO hx⟩
 | dead=>exact r.elim
open Classical in
def eObj (e:E3):E3:=fun s h=>(e s h).bind fun r h1=>match r with
 | .v (.loc n)=>match h1[n]? with
  | some (.ins c fs)=>if n=h.length∧h1=h++[.ins c fs]∧lowF n fs=true then .ok (.m (.ins c fs)) h else .no
  | _=> .no
 | _=> .no
theorem zqx {β1:List (Option Addr)} {h1:H3} {n:Nat} {c:Str} {fs:List (Str×V3)} {v:V} (rel:Rel κ F σ H) (e1:Ext No F.β H β1 H1) (r1:Rel κ (F.to β1 h1) σ H1) (rl:Rep κ β1 F.O H1 (.loc n) v) (en:n=F.h.length) (eh:h1=F.h++[.ins c fs]) (hlow:lowF n fs=true):
  Ext No F.β H (β1.take n) H1∧Post κ (Nw H) (F.to (β1.take n) F.h) σ H1 (.m (.ins c fs)) v:=by
 have hl1:β1.length=h1.length:=r1.heap.len
 have hl0:F.β.length=F.h.length:=rel.heap.len
 have hlen:β1.length=n+1:=by rw [hl1,eh];simp [en]
 have hn:h1[n]? =some (.ins c fs):=by rw [eh,en];simp
 rcases r1.heap.cell n _ hn with w | ⟨x,hx,C,dx,gs,k1,k2,k3⟩
 ·cases w
 have hx:β1[n]? =some (some x):=hx
 have ev:v= .ref x:=by cases rl with | loc _ l2=>exact l2 x hx
 subst ev
 have hxb:some x∈β1:=List.mem_of_getElem? hx
 have hxn:some x∉β1.take n:=fun z=>by
  obtain ⟨j,hj⟩:=List.getElem?_of_mem z
  have hj2:j < n:=by have:=(List.getElem?_eq_some_iff.mp hj).1;rw [List.length_take] at this;omega
  rw [List.getElem?_take_of_lt hj2] at hj
  have:=r1.heap.inj j n x hj hx
  omega
 have hxH:H x=none:=e1.nwb n x (by omega) hx
 have ex:Ext No F.β H (β1.take n) H1:=⟨fun a u ha hb m=>by
   obtain ⟨q1,q2⟩:=e1.keep a u ha hb m
   exact ⟨q1,fun z=>q2 (List.mem_of_mem_take z)⟩,by rw [List.length_take];omega,fun i a hi h=>by
   rw [List.getElem?_take_of_lt (by omega)] at h;exact e1.bet i a hi h,e1.there,fun i a hi h=>by
   have:=(List.getElem?_eq_some_iff.mp h).1;rw [List.length_take] at this;omega⟩
 have rh:RelH κ (fun a=>a=x∨F.O a) (β1.take n) F.h H1:=by
  refine ⟨by rw [List.length_take];omega,fun i j a h1' h2'=>?_,fun a ha z=>?_,fun a ha=>?_,fun i a q=>?_,fun i c' hc=>?_⟩
  ·have hi:i < n:=by have:=(List.getElem?_eq_some_iff.mp h1').1;rw [List.length_take] at this;omega
   have hj:j < n:=by have:=(List.getElem?_eq_some_iff.mp h2').1;rw [List.length_take] at this;omega
   rw [List.getElem?_take_of_lt hi] at h1';rw [List.getElem?_take_of_lt hj] at h2'
   exact r1.heap.inj i j a h1' h2'
  ·rcases ha with ha | ha
   ·subst ha;exact hxn z
   ·exact r1.heap.off a ha (List.mem_of_mem_take z)
  ·rcases ha with ha | ha
   ·subst ha;exact ⟨_,k2,by intro _ z;cases z⟩
   ·exact r1.heap.trk a ha
  ·have hi:i < n:=by have:=(List.getElem?_eq_some_iff.mp q).1;rw [List.length_take] at this;omega
   rw [List.getElem?_take_of_lt hi] at q
   exact r1.heap.btr i a q
  ·have hi:i < n:=by rw [en];exact (List.getElem?_eq_some_iff.mp hc).1
   have hc1:h1[i]? =some c':=by rw [eh,List.getElem?_append_left (by omega)];exact hc
   have hlw:c'= .dead∨lowC n c':=(rel.heap.cell i c' hc).imp id fun ⟨a,_,q⟩=>by have:=q.low;rw [hl0,←en] at this;exact this
   rcases hlw with z | hlw
   ·exact .inl z
   ·exact (r1.heap.cell i c' hc1).imp id fun ⟨a,ha,q⟩=>⟨a,by rw [List.getElem?_take_of_lt hi];exact ha,(CellR.addO hxb q).cut hlw⟩
 refine ⟨ex,x,rfl,rel.nextNew ex rh hxH,⟨C,dx,gs,k1,k2,((RepP.addO hxb k3).cut (lowF_iff.mp hlow)).sub fun a ha=>?_⟩,hxH⟩
 rcases ha with z | z
 ·rcases List.mem_cons.mp z with z | z
  ·exact .inl z
  ·exact .inr (.inl z)
 ·exact .inr (.inr z)
theorem zz6 {d:E3} (h:PE X e (zf κ E d)):PE X e (zf κ E (eObj d)):=yv h fun σ H Q ⟨F,rel,o⟩=>by
 refine ⟨F,rel,?_⟩
 unfold eObj at o
 cases q:d F.s F.h with
 | no=>rw [q] at o;exact o
 | ex x h1=>rw [q] at o;exact o
 | ok r h1=>
  rw [q] at o
  intro β1 v H1 e1 p1
  simp only [Res.bind] at o
  split at o
  ·split at o
   ·split at o
    ·rename_i hc
     obtain ⟨en,eh,hlow⟩:=hc
     obtain ⟨ex,ps⟩:=zqx rel e1 p1.1 p1.2 en eh hlow
     exact o _ v H1 ex ps
    ·exact o.elim
   ·exact o.elim
  ·exact o.elim
end
section
variable {X:Cx} {κ:Kx} {E:XK} {F F':Fr} {σ σ':L2.St} {H H1 H':Hp} {Q:VK} {p:Addr} {e a b c o:Expr} {es:List Expr} {pos apos np cpos:Pos} {i:Nat} {D:Ends}
theorem qm {A:Around} {k:Nat} (hr:Room k A):A.units+9 < cLine:=by have:=hr.units;omega
theorem Flds.cons {cs:List Str} {c f:Str} {C:Addr} (hC:κ.cl c=some C) (cl:Cls X.K C) (na:NoAttr X.K C f) (r:Flds X κ cs f):Flds X κ (c::cs) f:=fun c' hc C' hC'=>by
 rcases List.mem_cons.mp hc with z | z
 ·subst z;rw [hC] at hC';cases hC';exact ⟨cl,na⟩
 ·exact r c' z C' hC'
theorem qv: ∀xs s s',gsNil xs s=some s'→xs.length=0:=fun xs s s' e=>by
 cases xs with
 | nil=>rfl
 | cons _ _=>cases e
theorem z5 {g:G3} {gs:Gs3} {n:Nat} (h: ∀xs s s',gs xs s=some s'→xs.length=n): ∀xs s s',gsCons g gs xs s=some s'→xs.length=n+1:=fun xs s s' e=>by
 cases xs with
 | nil=>cases e
 | cons x r=>
  simp only [gsCons] at e
  cases q:g x s with
  | none=>rw [q] at e;cases e
  | some s1=>rw [q] at e;rw [List.length_cons,h r s1 s' e]
def sAug (i:Nat) (f:F2) (p:P3):D3:=fun s h=>match s[i]? with
 | some (some (.v x))=>(p s h).bindS fun y h1=>match f s h1 (.x x) y with
  | some (.v z)=> .nx (s.set i (some (.v z))) h1
  | _=> .no
 | _=> .no
theorem znu:OpSim κ (ipI fun i j=>i+j) zm4:=sim_addI
theorem zxn {x:Str} {op:Operator} {ti:TIp} {f:F2} {d:P3} {pos':Pos} (hs:OpSim κ ti f) (hh: ∀{te:TE},PE X e te→PS X (.AugAssign (.Name x pos') op e pos) (tAug i te ti)) (he:PE X e (zl κ E d)):PS X (.AugAssign (.Name x pos') op e pos) (zx κ E (sAug i f d)):=qp (hh he) fun D σ H ⟨F,rel,ht,o⟩=>by
 unfold sAug at o
 cases q:F.s[i]? with
 | none=>rw [q] at o;exact o.elim
 | some z=>
  rw [q] at o
  match z,q,o with
  | none,q,o=>exact o.elim
  | some (.m _),q,o=>exact o.elim
  | some (.v x3),q,o=>
   obtain ⟨v,h1,h2⟩:=rel.slot i _ q
   refine ⟨v,h1,(bindS (K:=kP κ) rel ht o).mono fun w H1 ⟨β1,h1',y,e1,⟨r1,ry⟩,o1⟩=>?_⟩
   have hi':i < F.s.length:=(List.getElem?_eq_some_iff.mp q).1
   cases q2:f F.s h1' (.x x3) y with
   | none=>simp only [q2] at o1;exact o1.elim
   | some z=>
    refine hs (F.to β1 h1') σ H1 (.x x3) y z v w _ r1 (show Rep κ β1 F.O H1 x3 v from Rep.ext0 e1 h2) ry q2 fun u H2 e2 p2=>?_
    match z,q2,p2,o1 with
    | .m _,q2,p2,o1=>simp only [q2] at o1;exact o1.elim
    | .v z,q2,p2,o1=>
     simp only [q2] at o1
     have s1:SExt F H (F.to β1 h1') H1:=SExt.of0 ht e1
     have s2:SExt (F.to β1 h1') H1 (F.to β1 h1') H2:=SExt.of0 (F:=F.to β1 h1') (h':=h1') ht e2
     exact o1 ((F.to β1 h1').setV i z) _ H2 ((s1.trans s2).trans (SExt.setN ht)) rfl rfl (p2.1.setV p2.2 hi')
def eGl (e:E3):E3:=fun s h=>(e s h).bind fun r h1=>match r with
 | .m c=> .ok (.v (.loc h1.length)) (h1++[c])
 | .v x=> .ok (.v x) h1
mutual
theorem Rep.grow {β:List (Option Addr)} {O O':Addr→Prop} {x:Addr} (hx:O x) (hs: ∀a,O' a→O a): ∀{v:V3} {w:V},Rep κ β O H v w→Rep κ (β++[some x]) O' H v w
 | _,_,.non=> .non
 | _,_,.bl b=> .bl b
 | _,_,.int i=> .int i
 | _,_,.str x=> .str x
 | _,_,.ty x=> .ty x
 | _,_,.tup h1 h2 h3 r=> .tup h1 (fun z=>(List.mem_append.mp z).elim h2 fun z=>h3 (by have:=List.mem_singleton.mp z;cases this;exact hx)) (fun z=>h3 (hs _ z)) (Reps.grow hx hs r)
 | _,_,.lst h1 h2 h3 r=> .lst h1 (fun z=>(List.mem_append.mp z).elim h2 fun z=>h3 (by have:=List.mem_singleton.mp z;cases this;exact hx)) (fun z=>h3 (hs _ z)) (Reps.grow hx hs r)
 | _,_,.scr h1 h2 h3=> .scr h1 (fun z=>(List.mem_append.mp z).elim h2 fun z=>h3 (by have:=List.mem_singleton.mp z;cases this;exact hx)) (fun z=>h3 (hs _ z))
 | _,_,.scrK h=> .scrK h
 | _,_,.dK h1 h2 h3 r=> .dK h1 (fun z=>(List.mem_append.mp z).elim h2 fun z=>h3 (by have:=List.mem_singleton.mp z;cases this;exact hx)) (fun z=>h3 (hs _ z)) (RepP.grow hx hs r)
 | _,_,.dT h1 h2 h3 r=> .dT h1 (fun z=>(List.mem_append.mp z).elim h2 fun z=>h3 (by have:=List.mem_singleton.mp z;cases this;exact hx)) (fun z=>h3 (hs _ z)) (RepP.grow hx hs r)
 | _,_,.obj h0 h1 h2 h3 r=> .obj h0 h1 (fun z=>(List.mem_append.mp z).elim h2 fun z=>h3 (by have:=List.mem_singleton.mp z;cases this;exact hx)) (fun z=>h3 (hs _ z)) (RepP.grow hx hs r)
 | _,_,.cls h=> .cls h
 | _,_,.loc h1 h2=> .loc (by rw [List.length_append];omega) fun a ha=>h2 a (by rw [List.getElem?_append_left h1] at ha;exact ha)
theorem Reps.grow {β:List (Option Addr)} {O O':Addr→Prop} {x:Addr} (hx:O x) (hs: ∀a,O' a→O a): ∀{v:List V3} {w:List V},Reps κ β O H v w→Reps κ (β++[some x]) O' H v w
 | _,_,.nil=> .nil
 | _,_,.cons a r=> .cons (Rep.grow hx hs a) (Reps.grow hx hs r)
theorem RepP.grow {β:List (Option Addr)} {O O':Addr→Prop} {x:Addr} (hx:O x) (hs: ∀a,O' a→O a): ∀{α:Type} {v:List (α×V3)} {w:List (α×V)},RepP κ β O H v w→RepP κ (β++[some x]) O' H v w
 | _,_,_,.nil=> .nil
 | _,_,_,.cons a r=> .cons (Rep.grow hx hs a) (RepP.grow hx hs r)
end
theorem CellR.grow {β:List (Option Addr)} {O O':Addr→Prop} {x:Addr} (hx:O x) (hs: ∀a,O' a→O a) {c:C3} {a:Addr} (r:CellR κ β O H c a):CellR κ (β++[some x]) O' H c a:=by
 cases c with
 | lst xs=>obtain ⟨_,q,r⟩:=r;exact ⟨_,q,r.grow hx hs⟩
 | dK xs=>obtain ⟨_,q,r⟩:=r;exact ⟨_,q,r.grow hx hs⟩
 | dT xs=>obtain ⟨_,q,r⟩:=r;exact ⟨_,q,r.grow hx hs⟩
 | ins c fs=>obtain ⟨_,_,_,k,q,r⟩:=r;exact ⟨_,_,_,k,q,r.grow hx hs⟩
 | dead=>exact r.elim
theorem Rel.cell {c:C3} {x:Addr} (r1:Rel κ (F.with x) σ H) (hc:CellR κ F.β (F.with x).O H c x):Rel κ (F.to (F.β++[some x]) (F.h++[c])) σ H∧Rep κ (F.β++[some x]) F.O H (.loc F.h.length) (.ref x):=by
 have hl:F.β.length=F.h.length:=r1.heap.len
 have nx:some x∉F.β:=r1.offp
 have nO: ¬F.O x:=r1.apart
 have hxO:(F.with x).O x:= .inl List.mem_cons_self
 have hs: ∀a,F.O a→(F.with x).O a:=fun a ha=>Fr.O_with ha
 have rd:=r1.drop
 have last: ∀{i:Nat} {a:Addr},F.β.length≤i→(F.β++[some x])[i]? =some (some a)→a=x∧i=F.β.length:=fun {i a} hi h=>by
  have h0:=(List.getElem?_eq_some_iff.mp h).1
  rw [List.getElem?_append_right hi] at h
  have:=List.mem_of_getElem? h;simp at this
  simp at h0
  exact ⟨this,by omega⟩
 refine ⟨⟨⟨?_,fun i j a h1 h2=>?_,fun a ha z=>?_,rd.heap.trk,fun i a q=>?_,fun i c' hc'=>?_⟩,rd.slen,rd.llen,rd.linj,rd.lt,rd.lo,rd.to,rd.tn,fun i y hy=>?_⟩,?_⟩
 ·show (F.β++[some x]).length=(F.h++[c]).length;simp [hl]
 ·have h1:(F.β++[some x])[i]? =some (some a):=h1
  have h2:(F.β++[some x])[j]? =some (some a):=h2
  rcases Nat.lt_or_ge i F.β.length with hi | hi <;> rcases Nat.lt_or_ge j F.β.length with hj | hj
  ·rw [List.getElem?_append_left hi] at h1;rw [List.getElem?_append_left hj] at h2;exact r1.heap.inj i j a h1 h2
  ·obtain ⟨rfl,_⟩:=last hj h2;rw [List.getElem?_append_left hi] at h1;exact absurd (List.mem_of_getElem? h1) nx
  ·obtain ⟨rfl,_⟩:=last hi h1;rw [List.getElem?_append_left hj] at h2;exact absurd (List.mem_of_getElem? h2) nx
  ·have a1:=(last hi h1).2;have a2:=(last hj h2).2;omega
 ·have z:some a∈F.β++[some x]:=z
  rcases List.mem_append.mp z with z | z
  ·exact rd.heap.off a ha z
  ·have:=List.mem_singleton.mp z;cases this;exact nO ha
 ·have q:(F.β++[some x])[i]? =some (some a):=q
  rcases Nat.lt_or_ge i F.β.length with hi | hi
  ·rw [List.getElem?_append_left hi] at q;exact r1.heap.btr i a q
  ·rw [(last hi q).1];exact r1.heap.trk x hxO
 ·have hc':(F.h++[c])[i]? =some c':=hc'
  rcases Nat.lt_or_ge i F.h.length with hi | hi
  ·rw [List.getElem?_append_left hi] at hc'
   refine (r1.heap.cell i c' hc').imp id fun ⟨a,ha,q⟩=>⟨a,?_,q.grow hxO hs⟩
   show (F.β++[some x])[i]? =_
   rw [List.getElem?_append_left (by omega)];exact ha
  ·rw [List.getElem?_append_right hi] at hc'
   have h0:=(List.getElem?_eq_some_iff.mp hc').1
   simp at h0
   rw [h0] at hc';cases hc'
   have ei:i=F.h.length:=by omega
   subst ei
   refine .inr ⟨x,?_,hc.grow hxO hs⟩
   show (F.β++[some x])[F.h.length]? =_
   rw [←hl];simp
 ·obtain ⟨v,h1,h2⟩:=r1.slot i y hy
  refine ⟨v,h1,?_⟩
  cases y with
  | v y=>exact Rep.grow hxO hs h2
  | m c=>obtain ⟨a,a1,a2,a3⟩:=h2;exact ⟨a,a1,a2,a3.grow hxO hs⟩
 ·refine .loc (by simp [hl]) fun a ha=>?_
  rw [←hl] at ha;simp at ha;rw [ha]
theorem zys {d:E3} {σ:L2.St} {H:Hp} {Q:VK} (h:zf κ E (eGl d) σ H Q):zf κ E d σ H Q:=by
 obtain ⟨F,rel,o⟩:=h
 refine ⟨F,rel,?_⟩
 unfold eGl at o
 cases q:d F.s F.h with
 | no=>rw [q] at o;exact o
 | ex x h1=>rw [q] at o;exact o
 | ok r h1=>
  rw [q] at o
  intro β1 v H1 e1 p1
  cases r with
  | v x=>exact o β1 v H1 e1 p1
  | m c=>
   obtain ⟨x,rfl,r1,hc,hn⟩:=p1
   obtain ⟨r2,rl⟩:=Rel.cell (F:=F.to β1 h1) r1 hc
   have nx:some x∉β1:=r1.offp
   refine o (β1++[some x]) (.ref x) H1 ⟨fun a u ha hb m=>?_,by rw [List.length_append];have:=e1.len;omega,fun i a hi hh=>?_,e1.there,fun i a hi hh=>?_⟩ ⟨r2,rl⟩
   ·obtain ⟨q1,q2⟩:=e1.keep a u ha hb m
    refine ⟨q1,fun z=>?_⟩
    rcases List.mem_append.mp z with z | z
    ·exact q2 z
    ·have:=List.mem_singleton.mp z;cases this
     rw [hn] at ha;cases ha
   ·rw [List.getElem?_append_left (by have:=e1.len;omega)] at hh
    exact e1.bet i a hi hh
   ·rcases Nat.lt_or_ge i β1.length with h2 | h2
    ·rw [List.getElem?_append_left h2] at hh;exact e1.nwb i a hi hh
    ·rw [List.getElem?_append_right h2] at hh
     have:a=x:=by have:=List.mem_of_getElem? hh;simp at this;exact this
     rw [this];exact hn
theorem r_gl {d:E3} (h:PE X e (zf κ E d)):PE X e (zf κ E (eGl d)):=yv h fun _ _ _=>zys
end
section
variable {X:Cx} {κ:Kx} {E:XK} {F F':Fr} {σ σ':L2.St} {H H1 H':Hp} {Q:VK} {p:Addr} {e a b c o:Expr} {es:List Expr} {pos apos np cpos:Pos} {i:Nat} {D:Ends}
open Classical in
end
section
variable {X:Cx} {κ:Kx} {E:XK} {F F':Fr} {σ σ':L2.St} {H H1 H':Hp} {Q:VK} {p:Addr} {e a b c o:Expr} {es:List Expr} {pos apos np cpos:Pos} {i:Nat} {D:Ends}
end
def spL (K:PySem.W.Frag):Sp:=fun vs H Q _=> ∃(a:Addr) (ns:List Int),vs=[.ref a]∧ns.length≤63∧SqL K H a (ns.map V.int)∧Only H∧∀H',Q (.bl true) H'
theorem spL_of {κ:Kx} {f:F3} (h: ∀ns:List Int,ns.length≤63→∃h',f [.scr ns] []= .ok (.v (.bl true)) h') {vs:List V} {H:Hp} {Q:VK} {E:XK} (q:spL κ.K vs H Q E):zB κ 1 f vs H Q E:=by
 obtain ⟨a,ns,rfl,hn,hS,hO,hQ⟩:=q
 obtain ⟨h',e⟩:=h ns hn
 refine ⟨fun _=>False,[],[.scr ns],[],rfl,⟨rfl,fun i j a h=>by simp at h,fun a h=>h.elim,fun a h=>h.elim,fun i a h=>by simp at h,fun i c h=>by simp at h⟩,.cons ?_ .nil,?_⟩
 ·rcases hS with hS | hS
  ·rcases hS with hS | ⟨o,hS⟩
   ·rcases hO a with z | ⟨o,xs,z⟩
    ·rw [hS] at z;cases z
    ·rw [hS] at z;cases z
   ·exact .scr hS (by simp) fun z=>z
  ·exact .scrK hS
 ·rw [e]
  intro β' v H' ex p
  obtain ⟨_,r⟩:=p
  cases r
  exact hQ H'
theorem noX {P:Program} {w:World} {H:Hp} {s:Shared} {e:Value} {s':Shared} (h:XT P w [] H s (fun _ _ _=>False) e s'):False:=by
 obtain ⟨_,_,_,_,_,_,_,_,_,_,_,_,_,_,_,q⟩:=h
 exact q
end L3
namespace L3
open PySem L2
theorem zj3 {a b:D3} {s s1:S3} {h h1:H3} (e:a s h= .nx s1 h1):sSeq a b s h=b s1 h1:=by unfold sSeq;rw [e]
theorem zr7 {ok:H3→Prop} {g:G3} {b:D3} {h:H3} {Q:O3→Prop} (I:Nat→S3→Prop) {xs:List V3} {s:S3} (hok:ok h) (h0:I 0 s)
  (step: ∀(i:Nat) x s,xs[i]? =some x→I i s→∃s1,g x s=some s1∧((∃s2,(b s1 h= .nx s2 h∨b s1 h= .ct s2 h)∧I (i+1) s2)∨(∃r h2,b s1 h= .rt r h2∧Q (.rt r h2))∨∃s2,b s1 h= .bk s2 h∧Q (.nx s2 h)))
  (done: ∀s,I xs.length s→Q (.nx s h)):Q (zK ok g b xs s h):=by
 have gen: ∀(n i:Nat) (s:S3),n=xs.length - i→i≤xs.length→I i s→Q (zK ok g b (xs.drop i) s h):=by
  intro n
  induction n with
  | zero=>
   intro i s hn hi hI
   have:i=xs.length:=by omega
   subst this
   rw [List.drop_length]
   unfold zK
   rw [if_pos hok]
   exact done s hI
  | succ n ih=>
   intro i s hn hi hI
   have hlt:i < xs.length:=by omega
   rw [List.drop_eq_getElem_cons hlt]
   unfold zK
   rw [if_pos hok]
   obtain ⟨s1,hg,hs⟩:=step i xs[i] s (zy hlt) hI
   simp only [hg]
   rcases hs with ⟨s2,hb,hI2⟩ | ⟨r,h2,hb,hq⟩ | ⟨s2,hb,hq⟩
   ·rcases hb with hb | hb <;> simp only [hb] <;> exact ih (i+1) s2 (by omega) hlt hI2
   ·simp only [hb];exact hq
   ·simp only [hb];exact hq
 exact gen _ 0 s rfl (Nat.zero_le _) h0
theorem zkg {ok:H3→Prop} {g:G3} {b:D3} {h:H3} (I:Nat→S3→Prop) {xs:List V3} {s:S3} (hok:ok h) (h0:I 0 s)
  (step: ∀(i:Nat) x s,xs[i]? =some x→I i s→∃s1 s2,g x s=some s1∧b s1 h= .nx s2 h∧I (i+1) s2): ∃s',zK ok g b xs s h= .nx s' h∧I xs.length s':=by
 refine zr7 (Q:=fun o=> ∃s',o= .nx s' h∧I xs.length s') I hok h0 (fun i x s hx hI=>?_) fun s hI=>⟨s,rfl,hI⟩
 obtain ⟨s1,s2,h1,h2,h3⟩:=step i x s hx hI
 exact ⟨s1,h1,.inl ⟨s2,.inl h2,h3⟩⟩
theorem zrm {α:Type} {ok:H3→Prop} {g:G3} {e:E3} {h:H3} (I:S3→Prop) (enc:α→V3) (f:α→V3) (hok:ok h) {l:List α} (hl:l.length≤sizeLine)
  (step: ∀a s,a∈l→I s→∃s1 r,g (enc a) s=some s1∧I s1∧e s1 h= .ok r h∧r.fz=some (f a)) {s:S3} (h0:I s):
  yX ok g tTru e (l.map enc) [] s h= .ok (l.map f) h:=by
 have gen: ∀(l:List α) (acc:List V3) (s:S3),acc.length+l.length≤sizeLine→(∀a s,a∈l→I s→∃s1 r,g (enc a) s=some s1∧I s1∧e s1 h= .ok r h∧r.fz=some (f a))→I s→yX ok g tTru e (l.map enc) acc s h= .ok (acc++l.map f) h:=by
  intro l
  induction l with
  | nil=>intro acc s _ _ _;rw [List.map_nil];unfold yX;rw [if_pos hok];simp
  | cons x r ih=>
   intro acc s hl st hI
   rw [List.map_cons]
   unfold yX
   rw [if_pos hok]
   obtain ⟨s1,v,h1,h2,h5,h6⟩:=st x s List.mem_cons_self hI
   rw [List.length_cons] at hl
   simp only [h1,tTru,h5,h6,if_pos (show acc.length < sizeLine by omega)]
   rw [ih (acc++[f x]) s1 (by rw [List.length_append,List.length_singleton];omega) (fun x s hx=>st x s (List.mem_cons_of_mem _ hx)) h2]
   simp
 have:=gen l [] s (by simpa using hl) step h0
 simpa using this
theorem zgw {α:Type} {ok:H3→Prop} {g:G3} {c:T3} {e:E3} {h:H3} (I:S3→Prop) (enc:α→V3) (p:α→Bool) (f:α→V3) (hok:ok h) {l:List α} (hl:l.length≤sizeLine)
  (step: ∀a s,a∈l→I s→∃s1,g (enc a) s=some s1∧I s1∧c s1 h= .ok (p a) h∧(p a=true→∃r,e s1 h= .ok r h∧r.fz=some (f a))) {s:S3} (h0:I s):
  yX ok g c e (l.map enc) [] s h= .ok ((l.filter p).map f) h:=by
 have gen: ∀(l:List α) (acc:List V3) (s:S3),acc.length+l.length≤sizeLine→(∀a s,a∈l→I s→∃s1,g (enc a) s=some s1∧I s1∧c s1 h= .ok (p a) h∧(p a=true→∃r,e s1 h= .ok r h∧r.fz=some (f a)))→I s→yX ok g c e (l.map enc) acc s h= .ok (acc++(l.filter p).map f) h:=by
  intro l
  induction l with
  | nil=>intro acc s _ _ _;rw [List.map_nil];unfold yX;rw [if_pos hok];simp
  | cons x r ih=>
   intro acc s hl st hI
   rw [List.map_cons]
   unfold yX
   rw [if_pos hok]
   obtain ⟨s1,h1,h2,h3,h4⟩:=st x s List.mem_cons_self hI
   rw [List.length_cons] at hl
   simp only [h1,h3]
   cases q:p x with
   | false=>
    simp only [List.filter_cons,q]
    exact ih acc s1 (by omega) (fun x s hx=>st x s (List.mem_cons_of_mem _ hx)) h2
   | true=>
    obtain ⟨v,h5,h6⟩:=h4 q
    simp only [h5,h6,List.filter_cons,q,if_pos (show acc.length < sizeLine by omega)]
    rw [ih (acc++[f x]) s1 (by rw [List.length_append,List.length_singleton];omega) (fun x s hx=>st x s (List.mem_cons_of_mem _ hx)) h2]
    simp
 have:=gen l [] s (by simpa using hl) step h0
 simpa using this
theorem zlb (l:List Int):zD int3 (l.map .int)=some l:=by
 have:=zet (f:=int3) (g:=V3.int) (k:=id) (fun _=>rfl) l
 simpa using this
theorem ztf (l:List Bool):zD bl3 (l.map .bl)=some l:=by
 have:=zet (f:=bl3) (g:=V3.bl) (k:=id) (fun _=>rfl) l
 simpa using this
theorem at0 {α:Type} {x:α} {r:List α}:atI (x::r) (0:Int)=some x:=qz (j:=0) rfl
theorem at1 {α:Type} {x y:α} {r:List α}:atI (x::y::r) (1:Int)=some y:=qz (j:=1) rfl
theorem at2 {α:Type} {x y z:α} {r:List α}:atI (x::y::z::r) (2:Int)=some z:=qz (j:=2) rfl
theorem at3 {α:Type} {x y z u:α} {r:List α}:atI (x::y::z::u::r) (3:Int)=some u:=qz (j:=3) rfl
theorem at4 {α:Type} {x y z u v:α} {r:List α}:atI (x::y::z::u::v::r) (4:Int)=some v:=qz (j:=4) rfl
theorem atm1 {α:Type} {l:List α} {x:α}:atI (l++[x]) (-1:Int)=some x:=zra l x
theorem zeu {i j:Int} (h: -(2 ^ 64) < i∧i < 2 ^ 64):CMul i j:= .inl h
theorem zsc {i j:Int} (h: -(2 ^ 64) < j∧j < 2 ^ 64):CMul i j:= .inr h
theorem zlg {h:H3} {n:Nat} {x y:V3} {a b:V} (hx:qg h x= .f a) (hy:qg h y= .f b):yi h n x y=some (eqV a b):=by
 cases n <;> simp only [yi,hx,hy]
theorem zf2 {h:H3} {n:Nat} {i j:Int}:yi h n (.int i) (.int j)=some (decide (i=j)):=by
 rw [zlg (a:= .int i) (b:= .int j) rfl rfl];congr 1
theorem zpv {h:H3} {n:Nat} {i j:Str}:yi h n (.str i) (.str j)=some (decide (i=j)):=by
 rw [zlg (a:= .str i) (b:= .str j) rfl rfl];congr 1
theorem nx_ite {c:Prop} [Decidable c] {a b:S3} {h:H3}:(if c then O3.nx a h else O3.nx b h)=O3.nx (if c then a else b) h:=by split <;> rfl
theorem rt_ite {c:Prop} [Decidable c] {a b:Vl} {h:H3}:(if c then O3.rt a h else O3.rt b h)=O3.rt (if c then a else b) h:=by split <;> rfl
theorem ok_ite {α:Type} {c:Prop} [Decidable c] {a b:α} {h:H3}:(if c then Res.ok a h else Res.ok b h)=Res.ok (if c then a else b) h:=by split <;> rfl
theorem cons_ite {α:Type} {c:Prop} [Decidable c] {a b:α} {x y:List α}:(if c then a::x else b::y)=(if c then a else b)::(if c then x else y):=by split <;> rfl
theorem some_ite {α:Type} {c:Prop} [Decidable c] {a b:α}:(if c then some a else some b)=some (if c then a else b):=by split <;> rfl
theorem v_ite {c:Prop} [Decidable c] {a b:V3}:(if c then Vl.v a else Vl.v b)=Vl.v (if c then a else b):=by split <;> rfl
theorem int_ite {c:Prop} [Decidable c] {a b:Int}:(if c then V3.int a else V3.int b)=V3.int (if c then a else b):=by split <;> rfl
theorem bl_ite {c:Prop} [Decidable c] {a b:Bool}:(if c then V3.bl a else V3.bl b)=V3.bl (if c then a else b):=by split <;> rfl
theorem oEq_int {s:S3} {h:H3} {i j:Int}:yO s h (.x (.int i)) (.x (.int j))=some (.v (.bl (decide (i=j)))):=by
 unfold yO qJ;simp only [rdm,rdl,zf2,Option.map_some]
theorem oNe_int {s:S3} {h:H3} {i j:Int}:qd s h (.x (.int i)) (.x (.int j))=some (.v (.bl (!decide (i=j)))):=by
 unfold qd qJ;simp only [rdm,rdl,zf2,Option.map_some]
theorem oAdd_int {s:S3} {h:H3} {i j:Int}:zi s h (.x (.int i)) (.x (.int j))=some (.v (.int (i+j))):=rfl
theorem oAddI_int {s:S3} {h:H3} {i j:Int}:zm4 s h (.x (.int i)) (.x (.int j))=some (.v (.int (i+j))):=rfl
theorem oSub_int {s:S3} {h:H3} {i j:Int}:yd s h (.x (.int i)) (.x (.int j))=some (.v (.int (i - j))):=rfl
theorem oMul_int {s:S3} {h:H3} {i j:Int} (c:CMul i j):yc s h (.x (.int i)) (.x (.int j))=some (.v (.int (i*j))):=by
 unfold yc qq zvl oI;simp only [if_pos c,Option.map_some]
theorem oDiv_int {s:S3} {h:H3} {i j:Int} (a:0 < j) (b:j < 1073741824):ya s h (.x (.int i)) (.x (.int j))=some (.v (.int (i / j))):=by
 unfold ya oI;simp only [if_pos (show CDiv i j from ⟨a,b⟩),Option.map_some]
theorem oMod_int {s:S3} {h:H3} {i j:Int} (c:0 < j):zF s h (.x (.int i)) (.x (.int j))=some (.v (.int (i % j))):=by
 unfold zF oI;simp only [if_pos c,Option.map_some]
theorem oShr_int {s:S3} {h:H3} {i j:Int} (c:0≤j):oShr s h (.x (.int i)) (.x (.int j))=some (.v (.int (i / 2 ^ j.toNat))):=by
 unfold oShr oI;simp only [if_pos c,Option.map_some]
theorem oPow_int {s:S3} {h:H3} {i j:Int} (c:CPow i j):oPow s h (.x (.int i)) (.x (.int j))=some (.v (.int (i ^ j.toNat))):=by
 unfold oPow oI;simp only [if_pos c,Option.map_some]
theorem oAndI_int {s:S3} {h:H3} {i j:Int}:zzz s h (.x (.int i)) (.x (.int j))=some (.v (.int (Builtin.bitAnd i j))):=rfl
theorem oLt_int {s:S3} {h:H3} {i j:Int}:oLt s h (.x (.int i)) (.x (.int j))=some (.v (.bl (decide (i < j)))):=rfl
theorem oLe_int {s:S3} {h:H3} {i j:Int}:qt s h (.x (.int i)) (.x (.int j))=some (.v (.bl (decide (i≤j)))):=rfl
theorem oGt_int {s:S3} {h:H3} {i j:Int}:oGt s h (.x (.int i)) (.x (.int j))=some (.v (.bl (decide (j < i)))):=rfl
theorem oGe_int {s:S3} {h:H3} {i j:Int}:oGe s h (.x (.int i)) (.x (.int j))=some (.v (.bl (decide (j≤i)))):=rfl
theorem oIx_tup {s:S3} {h:H3} {xs:List V3} {i:Int}:zr s h (.x (.tup xs)) (.x (.int i))=(atI xs i).map .v:=by
 unfold zr qq oIxT oIxL oIxS;simp only [rdl];cases atI xs i <;> rfl
theorem oIx_lst {s:S3} {h:H3} {xs:List V3} {i:Int}:zr s h (.x (.lst xs)) (.x (.int i))=(atI xs i).map .v:=by
 unfold zr qq oIxT oIxL oIxS;simp only [rdl];cases atI xs i <;> rfl
theorem oIx_scr {s:S3} {h:H3} {ns:List Int} {i:Int}:zr s h (.x (.scr ns)) (.x (.int i))=(atI (ns.map .int) i).map .v:=by
 unfold zr qq oIxT oIxL oIxS;simp only [rdl];cases atI (ns.map V3.int) i <;> rfl
theorem sMt_ap {op:FM} {p:P3} {a:A3} {s:S3} {h:H3}:qi op p a s h=mtO op p a (fun s h _=> .nx s h) s h:=rfl
theorem mAppend_ok {xs:List V3} {y:V3} (h:xs.length < sizeLine):yV xs [y]=some (xs++[y],.non):=by unfold yV;simp only [if_pos h]
theorem yt:1000000≤sizeLine:=by decide
theorem sz0:(0≤sizeLine)=True:=by simp
theorem sz1:(1≤sizeLine)=True:=eq_true (by have:=yt;omega)
theorem sz2:(2≤sizeLine)=True:=eq_true (by have:=yt;omega)
theorem sz3:(3≤sizeLine)=True:=eq_true (by have:=yt;omega)
theorem sz4:(4≤sizeLine)=True:=eq_true (by have:=yt;omega)
theorem sz5:(5≤sizeLine)=True:=eq_true (by have:=yt;omega)
noncomputable def gb (g:G3) (b:D3) (x:V3) (s:S3) (h:H3):O3:=match g x s with
 | some s1=>b s1 h
 | none=> .no
theorem qM {Q:Res Vl→Prop} {k n:Nat} {b:D3} {vs:List V3} {h:H3} (hl:vs.length=k) (q:Q ((b (start3 n vs) h).res)):Q (fun3 k n b vs h):=by
 unfold fun3;rw [if_pos hl];exact q
theorem zpa {α:Type} {p:P3} {g:G3} {b:D3} {s:S3} {h:H3} {x:V3} {ok:H3→Prop} {enc:α→V3} {l:List α} (ep:p s h= .ok (.x x) h) (hw:yj h x=some (l.map enc,ok))
  (I:Nat→S3→Prop) (h0:I 0 s) (step: ∀(i:Nat) a s,l[i]? =some a→I i s→∃s2,gb g b (enc a) s h= .nx s2 h∧I (i+1) s2): ∃s',zo (iL p) g b s h= .nx s' h∧I l.length s':=by
 have hf:zo (iL p) g b s h=zK ok g b (l.map enc) s h:=by
  unfold zo iL;simp only [ep,Res.bind,Res.bindS,hw]
 rw [hf]
 have:=zkg (ok:=ok) (g:=g) (b:=b) (h:=h) I (xs:=l.map enc) (s:=s) (zdr hw).1 h0 fun i x s hx hI=>by
  rw [List.getElem?_map] at hx
  obtain ⟨a,ha,rfl⟩:=Option.map_eq_some_iff.1 hx
  obtain ⟨s2,e,hI2⟩:=step i a s ha hI
  unfold gb at e
  cases q:g (enc a) s with
  | none=>rw [q] at e;cases e
  | some s1=>rw [q] at e;exact ⟨s1,s2,rfl,e,hI2⟩
 rwa [List.length_map] at this
theorem zoj {Q:O3→Prop} {α:Type} {p:P3} {g:G3} {b r:D3} {s:S3} {h:H3} {x:V3} {ok:H3→Prop} {enc:α→V3} {l:List α} (ep:p s h= .ok (.x x) h) (hw:yj h x=some (l.map enc,ok))
  (I:Nat→S3→Prop) (h0:I 0 s) (step: ∀(i:Nat) a s,l[i]? =some a→I i s→∃s2,gb g b (enc a) s h= .nx s2 h∧I (i+1) s2) (k: ∀s',I l.length s'→Q (r s' h)):Q (sSeq (zo (iL p) g b) r s h):=by
 obtain ⟨s',e,hI⟩:=zpa ep hw I h0 step
 rw [zj3 e];exact k s' hI
theorem zj4 {a:A3} {g:G3} {b:D3} {s:S3} {h:H3} {j:Int} (ea:a s h= .ok [.x (.int j)] h) (hj: -(2 ^ 62)≤j∧j < 2 ^ 62)
  (I:Nat→S3→Prop) (h0:I 0 s) (step: ∀(i:Nat) s,i < j.toNat→I i s→∃s2,gb g b (.int (i:Int)) s h= .nx s2 h∧I (i+1) s2): ∃s',zo (iR1 a) g b s h= .nx s' h∧I j.toNat s':=by
 have hf:zo (iR1 a) g b s h=zK (fun _=>True) g b ((List.range j.toNat).map fun k=> .int (0+((k:Nat):Int))) s h:=by
  unfold zo iR1;simp only [ea,Res.bind,Res.bindS,if_pos hj]
 rw [hf]
 have:=zkg (ok:=fun _=>True) (g:=g) (b:=b) (h:=h) I (xs:=(List.range j.toNat).map fun k=> .int (0+((k:Nat):Int))) (s:=s) trivial h0 fun i x s hx hI=>by
  have hi:i < j.toNat:=by
   have:=List.getElem?_eq_some_iff.1 hx
   simpa using this.1
  rw [List.getElem?_map,List.getElem?_range hi] at hx
  cases hx
  obtain ⟨s2,e,hI2⟩:=step i s hi hI
  simp only [Int.zero_add]
  unfold gb at e
  cases q:g (.int i) s with
  | none=>rw [q] at e;cases e
  | some s1=>rw [q] at e;exact ⟨s1,s2,rfl,e,hI2⟩
 rwa [List.length_map,List.length_range] at this
theorem zok {Q:O3→Prop} {a:A3} {g:G3} {b r:D3} {s:S3} {h:H3} {j:Int} (ea:a s h= .ok [.x (.int j)] h) (hj: -(2 ^ 62)≤j∧j < 2 ^ 62)
  (I:Nat→S3→Prop) (h0:I 0 s) (step: ∀(i:Nat) s,i < j.toNat→I i s→∃s2,gb g b (.int (i:Int)) s h= .nx s2 h∧I (i+1) s2) (k: ∀s',I j.toNat s'→Q (r s' h)):Q (sSeq (zo (iR1 a) g b) r s h):=by
 obtain ⟨s',e,hI⟩:=zj4 ea hj I h0 step
 rw [zj3 e];exact k s' hI
theorem zP {Q:Res Vl→Prop} {a b:D3} {s s1:S3} {h h1:H3} (e:a s h= .nx s1 h1) (q:Q ((b s1 h1).res)):Q ((sSeq a b s h).res):=by rw [zj3 e];exact q
theorem zpn {Q:Res Vl→Prop} {a:A3} {g:G3} {b r:D3} {s:S3} {h:H3} {j:Int} (ea:a s h= .ok [.x (.int j)] h) (hj: -(2 ^ 62)≤j∧j < 2 ^ 62)
  (I:Nat→S3→Prop) (h0:I 0 s) (step: ∀(i:Nat) s,i < j.toNat→I i s→∃s2,gb g b (.int (i:Int)) s h= .nx s2 h∧I (i+1) s2) (k: ∀s',I j.toNat s'→Q ((r s' h).res)):Q ((sSeq (zo (iR1 a) g b) r s h).res):=
 zok (Q:=fun o=>Q o.res) ea hj I h0 step k
theorem zf5 {Q:Res Vl→Prop} {α:Type} {p:P3} {g:G3} {b r:D3} {s:S3} {h:H3} {x:V3} {ok:H3→Prop} {enc:α→V3} {l:List α} (ep:p s h= .ok (.x x) h) (hw:yj h x=some (l.map enc,ok))
  (I:Nat→S3→Prop) (h0:I 0 s) (step: ∀(i:Nat) a s,l[i]? =some a→I i s→∃s2,gb g b (enc a) s h= .nx s2 h∧I (i+1) s2) (k: ∀s',I l.length s'→Q ((r s' h).res)):Q ((sSeq (zo (iL p) g b) r s h).res):=
 zoj (Q:=fun o=>Q o.res) ep hw I h0 step k
end L3
namespace L3
open PySem PySem.Spec PyProof.Rows L2
def yx:V3→Option zq
 | .int i=>some (.inl i)
 | .str z=>some (.inr z)
 | _=>none
def qu:V3→Option MK
 | .tup xs=>(zD yx xs).map .tup
 | .int i=>some (.one (.inl i))
 | .str z=>some (.one (.inr z))
 | _=>none
noncomputable def kV3:zq→V3
 | .inl i=> .int i
 | .inr z=> .str z
noncomputable def zw {α:Type} [DecidableEq α] (kvs:List (α×V3)) (k:α):Option V3:=(kvs.find? fun kv=>decide (kv.1=k)).map (·.2)
noncomputable def put3 {α:Type} [DecidableEq α] (kvs:List (α×V3)) (k:α) (v:V3):List (α×V3):=
 if (kvs.any fun kv=>decide (kv.1=k))=true then kvs.map fun kv=>if kv.1=k then (kv.1,v) else kv else kvs++[(k,v)]
inductive Dc where
 | k (kvs:List (zq×V3)) | t (kvs:List (MK×V3))
def Dc.c:Dc→C3
 | .k kvs=> .dK kvs
 | .t kvs=> .dT kvs
def Dc.len:Dc→Nat
 | .k kvs=>kvs.length
 | .t kvs=>kvs.length
def Dc.get:Dc→V3→Option (Option V3)
 | .k kvs,x=>(yx x).map (zw kvs)
 | .t kvs,x=>(qu x).map (zw kvs)
def Dc.put:Dc→V3→V3→Option Dc
 | .k kvs,x,v=>(yx x).map fun k=> .k (put3 kvs k v)
 | .t kvs,x,v=>(qu x).map fun k=> .t (put3 kvs k v)
noncomputable def C3.dc:C3→Option Dc
 | .dK kvs=>some (.k kvs)
 | .dT kvs=>some (.t kvs)
 | _=>none
def yp (s:S3) (h:H3):Rf→Option Dc
 | .x (.dK kvs)=>some (.k kvs)
 | .x (.dT kvs)=>some (.t kvs)
 | .x (.loc n)=>match h[n]? with
  | some c=>c.dc
  | none=>none
 | .s i=>match s[i]? with
  | some (some (.m c))=>c.dc
  | _=>none
 | _=>none
section
variable {X:Cx} {κ:Kx} {E:XK} {F F':Fr} {σ σ':L2.St} {H H1 H':Hp} {Q:VK} {p:Addr} {e a b c o:Expr} {pos apos np cpos:Pos} {i:Nat} {D:Ends} {β:List (Option Addr)} {O:Addr→Prop}
def DR (κ:Kx) (β:List (Option Addr)) (O:Addr→Prop) (H:Hp):Dc→Addr→Prop
 | .k kvs,a=> ∃ws,H a=some (.dK ws)∧RepP κ β O H kvs ws
 | .t kvs,a=> ∃ws,H a=some (.dT ws)∧RepP κ β O H kvs ws
theorem DR.of {c:C3} {d:Dc} {a:Addr} (e:c.dc=some d) (h:CellR κ β O H c a):DR κ β O H d a:=by
 cases c <;> simp [C3.dc] at e
 ·subst e;exact h
 ·subst e;exact h
theorem zhl {f:Rf} {v:V} {d:Dc} (rel:Rel κ F σ H) (r:RfR κ F H f v) (e:yp F.s F.h f=some d): ∃a,v= .ref a∧DR κ F.β F.O H d a:=by
 cases f with
 | s i=>
  obtain ⟨a,c,h1,h2,h3,h4⟩:=r
  simp only [yp,h3] at e
  exact ⟨a,h2,DR.of e h4⟩
 | x y=>
  cases y <;> simp [yp] at e
  case dK zs=>
   subst e
   cases r with
   | dK h1 h2 h3 h4=>exact ⟨_,rfl,_,h1,h4⟩
  case dT zs=>
   subst e
   cases r with
   | dT h1 h2 h3 h4=>exact ⟨_,rfl,_,h1,h4⟩
  case loc n=>
   cases r with
   | loc h1 h2=>
    cases q:F.h[n]? with
    | none=>rw [q] at e;cases e
    | some c=>
     rw [q] at e
     rcases rel.heap.cell n _ q with z | ⟨a,ha,h5⟩
     ·subst z;cases e
     ·exact ⟨a,h2 a ha,DR.of e h5⟩
theorem RepP.val {α:Type} [DecidableEq α] {k:α}: ∀{kvs:List (α×V3)} {ws:List (α×V)},RepP κ β O H kvs ws→(∀x,zw kvs k=some x→∃y,zX ws k=some y∧Rep κ β O H x y)∧(zw kvs k=none→zX ws k=none)
 | _,_,.nil=>⟨fun x e=>(nomatch e),fun _=>rfl⟩
 | _,_,.cons (k:=k') (x:=x') (y:=y') q t=>by
  have ih:=RepP.val (k:=k) t
  by_cases z:k'=k
  ·subst z
   refine ⟨fun x e=>?_,fun e=>?_⟩
   ·simp [zw] at e;subst e;exact ⟨y',by simp [zX],q⟩
   ·simp [zw] at e
  ·have e1: ∀(l:List (_×V3)),zw ((k',x')::l) k=zw l k:=fun l=>by simp [zw,List.find?_cons,z]
   have e2: ∀(l:List (_×V)),zX ((k',y')::l) k=zX l k:=fun l=>by simp [zX,List.find?_cons,z]
   refine ⟨fun x e=>?_,fun e=>?_⟩
   ·rw [e1] at e;rw [e2];exact ih.1 x e
   ·rw [e1] at e;rw [e2];exact ih.2 e
theorem RepP.any {α:Type} {g:α→Bool}: ∀{kvs:List (α×V3)} {ws:List (α×V)},RepP κ β O H kvs ws→(kvs.any fun kv=>g kv.1)=ws.any fun kv=>g kv.1
 | _,_,.nil=>rfl
 | _,_,.cons q t=>by simp only [List.any_cons,RepP.any (g:=g) t]
theorem RepP.len {α:Type}: ∀{kvs:List (α×V3)} {ws:List (α×V)},RepP κ β O H kvs ws→kvs.length=ws.length
 | _,_,.nil=>rfl
 | _,_,.cons q t=>by simp only [List.length_cons,RepP.len t]
theorem RepP.snoc {α:Type} {k:α} {x:V3} {y:V} (r:Rep κ β O H x y): ∀{kvs:List (α×V3)} {ws:List (α×V)},RepP κ β O H kvs ws→RepP κ β O H (kvs++[(k,x)]) (ws++[(k,y)])
 | _,_,.nil=> .cons r .nil
 | _,_,.cons q t=> .cons q (RepP.snoc r t)
theorem RepP.rpl {α:Type} [DecidableEq α] {k:α} {x:V3} {y:V} (r:Rep κ β O H x y): ∀{kvs:List (α×V3)} {ws:List (α×V)},RepP κ β O H kvs ws→RepP κ β O H (kvs.map fun kv=>if kv.1=k then (kv.1,x) else kv) (ws.map fun kv=>if kv.1=k then (kv.1,y) else kv)
 | _,_,.nil=> .nil
 | _,_,.cons (k:=k') q t=>by
  simp only [List.map_cons]
  by_cases z:k'=k
  ·rw [if_pos z,if_pos z];exact .cons r (RepP.rpl r t)
  ·rw [if_neg z,if_neg z];exact .cons q (RepP.rpl r t)
theorem RepP.put {α:Type} [DecidableEq α] {k:α} {x:V3} {y:V} {kvs:List (α×V3)} {ws:List (α×V)} (r:Rep κ β O H x y) (h:RepP κ β O H kvs ws):RepP κ β O H (put3 kvs k x) (yb ws k y):=by
 unfold put3 yb
 rw [h.any (g:=fun z=>decide (z=k))]
 split
 ·exact h.rpl r
 ·exact h.snoc r
theorem zkq {x:V3} {y:V} {k:zq} (r:Rep κ β O H x y) (e:yx x=some k):y=kV k:=by
 cases x <;> simp [yx] at e
 ·subst e;cases r;rfl
 ·subst e;cases r;rfl
theorem zoo: ∀{xs:List V3} {ys:List V} {ks:List zq},Reps κ β O H xs ys→zD yx xs=some ks→ys=ks.map kV
 | _,_,_,.nil,e=>by cases e;rfl
 | x::xs,y::ys,ks,.cons a r,e=>by
  obtain ⟨b,l,h1,h2,rfl⟩:=zdv e
  rw [List.map_cons,←zkq a h1,zoo r h2]
theorem zlo {x:V3} {y:V} {k:MK} (r:Rep κ β O H x y) (e:qu x=some k):KyT H k y:=by
 cases x <;> simp [qu] at e
 ·subst e;cases r;rfl
 ·subst e;cases r;rfl
 ·obtain ⟨ks,hk,rfl⟩:=e
  cases r with
  | tup w1 w2 w3 w4=>exact ⟨_,rfl,by rw [←zoo w4 hk];exact w1⟩
theorem DR.get {d:Dc} {a:Addr} {x:V3} {y:V} {o:Option V3} (h:DR κ β O H d a) (r:Rep κ β O H x y) (e:d.get x=some o):
  ∃o',DGet H a y o'∧(∀z,o=some z→∃w,o'=some w∧Rep κ β O H z w)∧(o=none→o'=none):=by
 cases d with
 | k kvs=>
  obtain ⟨ws,h1,h2⟩:=h
  obtain ⟨k,hk,rfl⟩:=Option.map_eq_some_iff.1 e
  have:=h2.val (k:=k)
  rw [zkq r hk]
  exact ⟨_,DGet.k h1,fun z hz=>this.1 z hz,this.2⟩
 | t kvs=>
  obtain ⟨ws,h1,h2⟩:=h
  obtain ⟨k,hk,rfl⟩:=Option.map_eq_some_iff.1 e
  have:=h2.val (k:=k)
  exact ⟨_,DGet.t h1 (zlo r hk),fun z hz=>this.1 z hz,this.2⟩
theorem DR.isD {d:Dc} {a:Addr} (h:DR κ β O H d a):IsD H a:=by
 cases d with
 | k kvs=>obtain ⟨ws,h1,_⟩:=h;exact .inl ⟨ws,.inl h1⟩
 | t kvs=>obtain ⟨ws,h1,_⟩:=h;exact .inr ⟨ws,.inl h1⟩
def zz8:R2:=fun x y H Q=> ∃a v,x=V.ref a∧DGet H a y (some v)∧Q v H
def znf:F2:=fun s h x y=>match yp s h x,y with
 | some d,.x k=>match d.get k with
  | some (some v)=>some (.v v)
  | _=>none
 | _,_=>none
theorem zrh:OpSim κ zz8 znf:=fun F σ H x y z v w Q rel rx ry e k=>by
 unfold znf at e
 split at e
 ·rename_i d kk q
  obtain ⟨a,rfl,hd⟩:=zhl rel rx q
  split at e
  ·rename_i v' q2
   cases e
   obtain ⟨o',g,h1,_⟩:=hd.get (show Rep κ F.β F.O H kk w from ry) q2
   obtain ⟨u,rfl,ru⟩:=h1 _ rfl
   exact ⟨a,u,rfl,g,k u H Ext.refl ⟨rel,ru⟩⟩
  ·cases e
 ·cases e
theorem zsh {da db:P3} (hu:X.A.units+1 < cLine) (hs:NoSl b) (ha:PE X a (zl κ E da)) (hb:PE X b (zl κ E db)):PE X (.Subscript a b pos) (zf κ E (eOp znf da db)):=yv (zu9 hu ha hb hs) fun _ _ _ h=>zos zrh h
def rDIn (neg:Bool):R2:=fun y x H Q=> ∃a o,x=V.ref a∧DGet H a y o∧Q (.bl (if neg then !o.isSome else o.isSome)) H
def oDIn (neg:Bool):F2:=fun s h y x=>match yp s h x,y with
 | some d,.x k=>match d.get k with
  | some o=>some (.v (.bl (if neg then !o.isSome else o.isSome)))
  | none=>none
 | _,_=>none
theorem zom {neg:Bool}:OpSim κ (rDIn neg) (oDIn neg):=fun F σ H y x z w v Q rel ry rx e k=>by
 unfold oDIn at e
 split at e
 ·rename_i d kk q
  obtain ⟨a,rfl,hd⟩:=zhl rel rx q
  split at e
  ·rename_i o q2
   cases e
   obtain ⟨o',g,h1,h2⟩:=hd.get (show Rep κ F.β F.O H kk w from ry) q2
   have e1:o'.isSome=o.isSome:=by
    cases o with
    | none=>rw [h2 rfl];rfl
    | some z=>obtain ⟨u,rfl,_⟩:=h1 z rfl;rfl
   refine ⟨a,o',rfl,g,?_⟩
   rw [e1]
   exact k _ H Ext.refl ⟨rel,.bl _⟩
  ·cases e
 ·cases e
theorem zs7 (hu:X.A.units+1 < cLine):OpR X (compareOp .In) (rDIn false):=fun pins s σ H x y v u Q I rx ry ⟨a,o,ey,g,q⟩=>by
 subst ey
 obtain rfl:u=Value.ref a:=ry
 exact d_in hu I g rx fun s3 I3=>⟨.bl o.isSome,H,I3,rfl,q⟩
def qG (d k z:P3):E3:=fun s h=>(d s h).bind fun f h1=>match yp s h1 f with
 | none=> .no
 | some _=>(k s h1).bind fun x h2=>(z s h2).bind fun y h3=>match yp s h3 f,x,y with
  | some d,.x x,.x y=>match d.get x with
   | some o=> .ok (.v (o.getD y)) h3
   | none=> .no
  | _,_,_=> .no
theorem ziy {ee ff:Expr} {dd dk dz:P3} (hu:X.A.units+1 < cLine) (ho:PE X o (zl κ E dd)) (he:PE X ee (zl κ E dk)) (hf:PE X ff (zl κ E dz)) (m:M2 X o "get" apos ee ff cpos):
  PE X (.Call (.Attribute o "get" apos) [ee,ff] [] cpos) (zf κ E (qG dd dk dz)):=yv (zrt hu ho he hf m) fun σ H Q ⟨F,rel,o⟩=>
 (zY (K:=kP κ) zS rel o).mono fun v H1 ⟨β1,h1,f,e1,⟨r1,rf⟩,o1⟩=>by
  cases q:yp F.s h1 f with
  | none=>simp only [q] at o1;exact o1.elim
  | some d0=>
   simp only [q] at o1
   obtain ⟨a,rfl,hd⟩:=zhl (F:=F.to β1 h1) r1 rf q
   refine ⟨a,rfl,hd.isD,(zY (F:=F.to β1 h1) (K:=kP κ) zS r1 o1).mono fun y H2 ⟨β2,h2,x,e2,⟨r2,rx⟩,o2⟩=>(zY (F:=F.to β2 h2) (K:=kP κ) zS r2 o2).mono fun w H3 ⟨β3,h3,z,e3,⟨r3,rz⟩,o3⟩=>?_⟩
   have rf3:=RfR.ext (F:=F.to β2 h2) (β':=β3) (h':=h3) r2 e3 (RfR.ext (F:=F.to β1 h1) (β':=β2) (h':=h2) r1 e2 rf)
   have rx3:=RfR.ext (F:=F.to β2 h2) (β':=β3) (h':=h3) r2 e3 rx
   cases q3:yp F.s h3 f with
   | none=>simp only [q3] at o3;exact o3.elim
   | some d=>
    obtain ⟨a',ea,hd3⟩:=zhl (F:=F.to β3 h3) r3 rf3 q3
    cases ea
    match x,z,rx3,rz,o3 with
    | .s _,_,_,_,o3=>simp only [q3] at o3;exact o3.elim
    | .x x,.s _,_,_,o3=>simp only [q3] at o3;exact o3.elim
    | .x x,.x z,rx3,rz,o3=>
     simp only [q3] at o3
     cases q4:d.get x with
     | none=>simp only [q4] at o3;exact o3.elim
     | some oo=>
      simp only [q4] at o3
      obtain ⟨o',g,h1',h2'⟩:=hd3.get (show Rep κ β3 F.O H3 x y from rx3) q4
      refine ⟨o',g,?_⟩
      cases oo with
      | none=>rw [h2' rfl];exact o3 β3 _ H3 Ext.refl ⟨r3,rz⟩
      | some zz=>obtain ⟨u,rfl,ru⟩:=h1' zz rfl;exact o3 β3 _ H3 Ext.refl ⟨r3,ru⟩
def eDnT:E3:=fun _ h=> .ok (.m (.dT [])) h
theorem zo4:PE X (.Dict [] [] pos) (zf κ E eDnT):=yv zrz fun σ H Q ⟨F,rel,o⟩ p hp=>o F.β (.ref p) _ (yY hp) (Post.dT rel hp .nil)
theorem zy4 {f:Rf} {v:V} {d d':Dc} {s':S3} {h':H3} (ht:F.T=[]) (rel:Rel κ F σ H) (r:RfR κ F H f v) (e:yp F.s F.h f=some d) (hw:wr3 F.s F.h d'.c f=some (s',h')):
  ∃l,v= .ref l∧DR κ F.β F.O H d l∧∀u,(∀β O H',(∀{α:Type} {x:List (α×V3)} {y:List (α×V)},RepP κ F.β F.O H x y→RepP κ β O H' x y)→H' l=some u→CellR κ β O H' d'.c l)→∃F',SExt F H F' (zj H l u)∧F'.s=s'∧F'.h=h'∧Rel κ F' σ (zj H l u):=by
 cases f with
 | s i=>
  cases hw
  obtain ⟨a,c,h1,h2,h3,h4⟩:=r
  simp only [yp,h3] at e
  have hd:=DR.of e h4
  have hex: ∃o,H a=some o:=by
   cases d with
   | k kvs=>obtain ⟨ws,q,_⟩:=hd;exact ⟨_,q⟩
   | t kvs=>obtain ⟨ws,q,_⟩:=hd;exact ⟨_,q⟩
  have hO:F.O a:= .inr (.inl (List.mem_of_getElem? h1))
  refine ⟨a,h2,hd,fun u hu=>⟨{F with s:=F.s.set i (some (.m d'.c))},⟨⟨fun b u hb hn m=>⟨by rw [zR (fun z=>by subst z;exact m (List.mem_of_getElem? h1))];exact hb,hn⟩,Nat.le_refl _,fun _ _ _ h=>h,(zd2 (β:=F.β) hex).there,nwb0⟩,fun _ h=> .inl h,rfl,ht⟩,rfl,rfl,rel.wrSlot h1 h3 (hu _ _ _ (fun hr=>hr.ext (zd2 (β:=F.β) hex) (fun b hb=>by rw [hb];exact hO) fun _ _ _ n=>n) yD)⟩⟩
 | x y=>
  cases y <;> simp [wr3] at hw
  case loc n=>
   obtain ⟨rfl,rfl⟩:=hw
   cases r with
   | loc h1 h2=>
    simp only [yp] at e
    cases q:F.h[n]? with
    | none=>rw [q] at e;cases e
    | some c=>
     rw [q] at e
     rcases rel.heap.cell n _ q with z | ⟨a,ha,h5⟩
     ·subst z;cases e
     ·have hd:=DR.of e h5
      have hex: ∃o,H a=some o:=by
       cases d with
       | k kvs=>obtain ⟨ws,q,_⟩:=hd;exact ⟨_,q⟩
       | t kvs=>obtain ⟨ws,q,_⟩:=hd;exact ⟨_,q⟩
      have ex:=fun o=>zid (o:=o) ha hex
      exact ⟨a,h2 a ha,hd,fun u hu=>⟨F.to F.β (F.h.set n d'.c),SExt.of0 ht (ex _),rfl,rfl,rel.next (ex _) (rel.heap.wrLoc ha (hu _ _ _ (fun hr=>hr.ext0 (ex _)) yD))⟩⟩
def qS (p i:P3) (e:E3):D3:=fun s h=>(e s h).bindS fun r h1=>match r.fz with
 | none=> .no
 | some y=>(p s h1).bindS fun f h2=>(i s h2).bindS fun j h3=>match j,yp s h3 f with
  | .x k,some d=>match d.put k y with
   | some d'=>if d.len < sizeLine then match wr3 s h3 d'.c f with
    | some (s',h')=> .nx s' h'
    | none=> .no
    else .no
   | none=> .no
  | _,_=> .no
theorem zt3 {dp di:P3} {d:E3} (h:zx κ E (qS dp di d) D σ H):zyc (zl κ E dp) (zl κ E di) (zf κ E d) D σ H:=by
 obtain ⟨F,rel,ht,o⟩:=h
 refine (bindS (K:=kE κ) rel ht o).mono fun v H1 ⟨β1,h1,r,e1,p1,o1⟩=>?_
 cases z:r.fz with
 | none=>simp only [z] at o1;exact o1.elim
 | some y=>
  simp only [z] at o1
  obtain ⟨r1,ry⟩:=Post.fz p1 z
  have s1:SExt F H (F.to β1 h1) H1:=SExt.of0 ht e1
  refine (bindS (F:=F.to β1 h1) (K:=kP κ) r1 ht (SOut.move s1 o1)).mono fun ov H2 ⟨β2,h2,f,e2,⟨r2,rf⟩,o2⟩=>?_
  have s2:SExt (F.to β1 h1) H1 (F.to β2 h2) H2:=SExt.of0 (F:=F.to β1 h1) ht e2
  refine (bindS (F:=F.to β2 h2) (K:=kP κ) r2 ht (SOut.move s2 o2)).mono fun iv H3 ⟨β3,h3,j,e3,⟨r3,rj⟩,o3⟩=>?_
  have s3:SExt (F.to β2 h2) H2 (F.to β3 h3) H3:=SExt.of0 (F:=F.to β2 h2) ht e3
  have rf3:=RfR.ext (F:=F.to β2 h2) (β':=β3) (h':=h3) r2 e3 rf
  have ry3:Rep κ β3 F.O H3 y v:=(Rep.ext0 e3 (Rep.ext0 e2 ry))
  match j,rj,o3 with
  | .s _,rj,o3=>exact o3.elim
  | .x k,rj,o3=>
   cases q:yp F.s h3 f with
   | none=>simp only [q] at o3;exact o3.elim
   | some dc=>
    simp only [q] at o3
    cases q2:dc.put k y with
    | none=>simp only [q2] at o3;exact o3.elim
    | some dc'=>
     simp only [q2] at o3
     by_cases hz:dc.len < sizeLine
     ·simp only [if_pos hz] at o3
      cases q3:wr3 F.s h3 dc'.c f with
      | none=>simp only [q3] at o3;exact o3.elim
      | some w=>
       obtain ⟨s',h'⟩:=w
       simp only [q3] at o3
       obtain ⟨l,ev,hd,wk⟩:=zy4 (F:=F.to β3 h3) ht r3 rf3 q q3
       subst ev
       have rk:Rep κ β3 F.O H3 k iv:=rj
       cases dc with
       | k kvs=>
        obtain ⟨ws,g1,g2⟩:=hd
        obtain ⟨kk,hk,rfl⟩:=Option.map_eq_some_iff.1 q2
        obtain ⟨F',e',es,eh,rel'⟩:=wk (.dK (yb ws kk v)) (fun β O H' mv hl=>⟨_,hl,mv (g2.put ry3)⟩)
        refine ⟨l,_,rfl,?_,SOut.move s3 o3 F' σ _ e' es eh rel'⟩
        rw [zkq rk hk]
        exact DPut.k g1 (by rw [←g2.len];exact hz)
       | t kvs=>
        obtain ⟨ws,g1,g2⟩:=hd
        obtain ⟨kk,hk,rfl⟩:=Option.map_eq_some_iff.1 q2
        obtain ⟨F',e',es,eh,rel'⟩:=wk (.dT (yb ws kk v)) (fun β O H' mv hl=>⟨_,hl,mv (g2.put ry3)⟩)
        refine ⟨l,_,rfl,?_,SOut.move s3 o3 F' σ _ e' es eh rel'⟩
        exact DPut.t g1 (zlo rk hk) (by rw [←g2.len];exact hz)
     ·simp only [if_neg hz] at o3;exact o3.elim
theorem zgs {tp:Pos} {ii:Expr} {dp di:P3} {d:E3} (hu:X.A.units+1 < cLine) (he:PE X e (zf κ E d)) (ho:PE X o (zl κ E dp)) (hi:PE X ii (zl κ E di))
 (hsw:swapsWith e (some (.Subscript o ii tp)) pos.line X.env=pure false:=by rfl):PS X (.Assign [.Subscript o ii tp] e pos) (zx κ E (qS dp di d)):=qp (zuu hu ho hi he hsw) fun D σ H h=>zt3 h
end
section
variable {X:Cx} {κ:Kx} {E:XK} {F F':Fr} {σ σ':L2.St} {H H1 H':Hp} {Q:VK} {p:Addr} {e a b c o:Expr} {pos apos np cpos ip jp:Pos} {i:Nat} {D:Ends} {β:List (Option Addr)} {O:Addr→Prop}
theorem qB {A:Around} {k:Nat} (hr:Room k A):A.units+1 < cLine:=by have:=qm hr;omega
end
section
variable {X:Cx} {κ:Kx} {E:XK} {e a b c o:Expr} {pos apos np cpos:Pos}
def zrl (d k:P3):E3:=fun s h=>(d s h).bind fun f h1=>match yp s h1 f with
 | none=> .no
 | some _=>(k s h1).bind fun x h2=>match yp s h2 f,x with
  | some d,.x x=>match d.get x with
   | some o=> .ok (.v (o.getD .non)) h2
   | none=> .no
  | _,_=> .no
theorem zvp {ee:Expr} {dd dk:P3} (hu:X.A.units+1 < cLine) (ho:PE X o (zl κ E dd)) (he:PE X ee (zl κ E dk)) (m:M1 X o "get" apos ee cpos):PE X (.Call (.Attribute o "get" apos) [ee] [] cpos) (zf κ E (zrl dd dk)):=
 yv (zri hu ho he m) fun σ H Q ⟨F,rel,o⟩=>(zY (K:=kP κ) zS rel o).mono fun v H1 ⟨β1,h1,f,e1,⟨r1,rf⟩,o1⟩=>by
  cases q:yp F.s h1 f with
  | none=>simp only [q] at o1;exact o1.elim
  | some d0=>
   simp only [q] at o1
   obtain ⟨a,rfl,hd⟩:=zhl (F:=F.to β1 h1) r1 rf q
   refine ⟨a,rfl,hd.isD,(zY (F:=F.to β1 h1) (K:=kP κ) zS r1 o1).mono fun y H2 ⟨β2,h2,x,e2,⟨r2,rx⟩,o2⟩=>?_⟩
   have rf2:=RfR.ext (F:=F.to β1 h1) (β':=β2) (h':=h2) r1 e2 rf
   cases q3:yp F.s h2 f with
   | none=>simp only [q3] at o2;exact o2.elim
   | some d=>
    obtain ⟨a',ea,hd2⟩:=zhl (F:=F.to β2 h2) r2 rf2 q3
    cases ea
    match x,rx,o2 with
    | .s _,_,o2=>simp only [q3] at o2;exact o2.elim
    | .x x,rx,o2=>
     simp only [q3] at o2
     cases q4:d.get x with
     | none=>simp only [q4] at o2;exact o2.elim
     | some oo=>
      simp only [q4] at o2
      obtain ⟨o',g,h1',h2'⟩:=hd2.get (show Rep κ β2 F.O H2 x y from rx) q4
      refine ⟨o',g,?_⟩
      cases oo with
      | none=>rw [h2' rfl];exact o2 β2 _ H2 Ext.refl ⟨r2,.non⟩
      | some zz=>obtain ⟨u,rfl,ru⟩:=h1' zz rfl;exact o2 β2 _ H2 Ext.refl ⟨r2,ru⟩
end
end L3
namespace L2
open PySem PySem.Spec PySem.W PyProof.Rows
def rRev (K:PySem.W.Frag):List V→Hp→VK→Prop:=fun xs H Q=> ∃p ys,xs=[.ref p]∧SqL K H p ys∧∀l,H l=none→Q (.ref l) (zj H l (.lst ys.reverse))
theorem zvo {ys:List V} {its:List Value} {acc:Array Value} (rv:Vals ys its) (hacc:ItemsOf (RvP its.toArray) acc its.toArray.size):Vals ys.reverse acc.toList:=by
 have hlen:=rv.length
 have hs:its.toArray.size=its.length:=by simp
 refine L2.Paired.of_get (by have h0:=hacc.1;rw [hs] at h0;simp only [List.length_reverse,Array.length_toList];omega) fun i x v hx hv=>?_
 have hi:i < ys.length:=by have:=(List.getElem?_eq_some_iff.1 hx).1;simpa using this
 rw [List.getElem?_reverse hi] at hx
 have h2:=hacc.2 i v (by rw [←Array.getElem?_toList];exact hv)
 unfold RvP at h2
 rw [hs,List.getElem?_toArray,←hlen] at h2
 obtain ⟨u,hu,ru⟩:=rv.get hx
 rw [hu] at h2
 cases h2
 exact ru
section
variable {X:Cx} {K:PySem.W.Frag} {e:Expr} {p1 p2 q1 q2:Pos} {t:TA}
theorem zvi (hK:X.K=K) (hc:X.calm=true) (hg:Gl X "list") (hm:X.mg "list" =none) (hg2:Gl X "reversed") (hm2:X.mg "reversed" =none) (ha:PA X [e] t) (he:starEach [e] X.env=[(false,eval e X.env)]:=by rfl)
  (he2:starEach [.Call (.Name "reversed" p2) [e] [] q2] X.env=[(false,eval (.Call (.Name "reversed" p2) [e] [] q2) X.env)]:=by rfl):PE X (.Call (.Name "list" p1) [.Call (.Name "reversed" p2) [e] [] q2] [] q1) (tCB (rRev K) t):=by
 subst hK
 intro pins s σ H Q I h
 refine wpAny_Call_Name_kw (ze3 I hg hm (show bootBuiltins "list" =some (.type "list") by rfl) ?_ (by decide) (by decide))
 refine PyProof.Rows.callWith_type1 ?_ he2 rfl
 rw [he2]
 show wpAny _ _ (spliced ((false,eval _ X.env)::backTo q1 [])) _ _ s
 refine Calls.spliced_cons ?_
 refine wpAny_Call_Name_kw (ze3 I hg2 hm2 (show bootBuiltins "reversed" =some (.type "reversed") by rfl) ?_ (by decide) (by decide))
 refine PyProof.Rows.callWith_type1 (zt (ha q2 pins s σ H _ I h) fun us s1 ⟨vs,H1,I1,r1,q1⟩=>?_) he rfl
 obtain ⟨p,ys,rfl,hq,q⟩:=q1
 obtain ⟨u,rfl,rx⟩:=zhz r1
 cases rx
 obtain ⟨its,rv,pl,hz⟩:=I1.list hq
 have hp:p < s1.heap.objs.size:=by obtain ⟨o,n,e,_⟩:=pl;exact Heap.lt_size e
 refine call_reversed_list pl.isList ?_
 refine Calls.spliced_nil ?_
 refine zup (I.ok.hd hc) ⟨_,Heap.get?_push_size _ rfl,rfl,rfl⟩ (pl.isList.push _) (Nat.ne_of_lt hp) (by have:=rv.length;simp only [List.size_toArray];omega) fun h' tk acc' c' hk hD hacc=>?_
 have rv2:=zvo rv hacc
 have hge:s1.heap.objs.size≤(s1.heap.push (revObj p ((its.toArray.size:Int) - 1))).objs.size:=by rw [Heap.size_push];omega
 exact ⟨.ref _,_,I1.laid (t':=tk) (fun b o e=>hk b o (Nat.ne_of_lt (Heap.lt_size e)) (Heap.get?_push_of_some _ e)) hge (show ObjOk X.prog X.w _ h' _ (.lst ys.reverse) from ⟨by rw [List.length_reverse];exact hz,acc'.toList,c',rv2,by rw [Array.toArray_toList];exact hD⟩),rfl,q _ (I1.hok.fresh hge)⟩
end
end L2
namespace L3
open PySem PySem.Spec PyProof.Rows L2
section
variable {X:Cx} {κ:Kx} {E:XK} {e:Expr} {p1 p2 q1 q2:Pos} {t:A3}
def bRev:FB:=fun s h fs=>match fs with
 | [f]=>(rdl s h f).map fun xs=> .m (.lst xs.reverse)
 | _=>none
theorem Reps.rev {β:List (Option Addr)} {O:Addr→Prop} {H:Hp}: ∀{xs:List V3} {ys:List V},Reps κ β O H xs ys→Reps κ β O H xs.reverse ys.reverse:=by
 have app: ∀{xs:List V3} {ys:List V} {xs':List V3} {ys':List V},Reps κ β O H xs ys→Reps κ β O H xs' ys'→Reps κ β O H (xs++xs') (ys++ys'):=by
  intro xs
  induction xs with
  | nil=>intro ys xs' ys' a b;cases a;exact b
  | cons x r ih=>intro ys xs' ys' a b;cases a with | cons h1 h2=>exact .cons h1 (ih h2 b)
 intro xs
 induction xs with
 | nil=>intro ys a;cases a;exact .nil
 | cons x r ih=>
  intro ys a
  cases a with
  | cons h1 h2=>rw [List.reverse_cons,List.reverse_cons];exact app (ih h2) (.cons h1 .nil)
theorem zti:qP κ (rRev κ.K) bRev:=fun F σ H fs z vs Q rel r e k=>by
 unfold bRev at e
 split at e
 ·rename_i f
  obtain ⟨v,rfl,rv⟩:=p1 r
  cases q:rdl F.s F.h f with
  | none=>rw [q] at e;cases e
  | some xs=>
   rw [q] at e;cases e
   obtain ⟨a,ys,rfl,sq,rs⟩:=zfn rel rv q
   exact ⟨_,_,rfl,sq,fun l hl=>k _ _ (yY hl) (Post.lst rel hl (Reps.rev rs))⟩
 ·cases e
theorem zwm (hK:X.K=κ.K) (hc:X.calm=true) (hg:Gl X "list") (hm:X.mg "list" =none) (hg2:Gl X "reversed") (hm2:X.mg "reversed" =none) (ha:PA X [e] (zV κ E t)) (he:starEach [e] X.env=[(false,eval e X.env)]:=by rfl)
  (he2:starEach [.Call (.Name "reversed" p2) [e] [] q2] X.env=[(false,eval (.Call (.Name "reversed" p2) [e] [] q2) X.env)]:=by rfl):PE X (.Call (.Name "list" p1) [.Call (.Name "reversed" p2) [e] [] q2] [] q1) (zf κ E (eB bRev t)):=
 yv (zvi hK hc hg hm hg2 hm2 ha he he2) fun _ _ _ h=>te_b zti h
end
end L3
namespace L2
open PySem PySem.Spec PyProof.Rows
section
variable {prog:Program} {w:World} {A:Around} {E:Value→Shared→Prop} {s:Shared}
abbrev KI:String:="dict_keyiterator"
def DE (h:Heap) (d:Addr) (es:Array DictEntry) (ep:Nat):Prop:=∃o,h.get? d=some o∧o.ExactDict∧o.data= .dict es ep
theorem DE.typeIs {d:Addr} {es:Array DictEntry} {ep:Nat} (x:DE s.heap d es ep):s.TypeIs (.ref d) "dict" :=let ⟨o,ho,hc,_⟩:=x;⟨o,ho,hc.1⟩
theorem ztr {d:Addr} {es:Array DictEntry} {ep:Nat} {Q:Value→Shared→Prop} (hd:(d==sysModules)=false) (hm:DE s.heap d es ep)
  (hQ:Q (.ref s.heap.objs.size) {s with heap:=s.heap.push {cls:= .type KI,data:= .fields #[.ref d,.int 0 0,.int es.size 0,.int ep 0]}}):wpAny (model prog w) A (pyIter (.ref d)) Q E s:=by
 obtain ⟨o,ho,hc,hdat⟩:=id hm
 have hT:=hm.typeIs
 refine wpAny_pyIter_slot hT F.slot_dict_iter (wpAny_call_entry F.slot_dict_iter hT F.entry_dict_iter ?_ (F.args_dict_iter_1 _))
 unfold PySem.Builtin.«dict.__iter__»;refine wpAny_bind ?_
 unfold PySem.Builtin.Dict.dictSlotNone;refine wpAny_bind (wpAny_notOrdered_dict hT ?_)
 show wpAny _ _ (pure (Value.ref d)) _ _ s;refine wpAny_pure ?_
 show wpAny _ _ (Builtin.Dict.showsAll d >>=_) _ _ s;unfold PySem.Builtin.Dict.showsAll
 rw [if_neg (fun z=>by rw [hd] at z;cases z)]
 refine wpAny_bind (wpAny_pure ?_)
 refine wpAny_bind (wpAny_dictEntries ho hdat (wpAny_bind (wpAny_dictEpoch ho hdat ?_)))
 refine wpAny_bind (wpAny_newObj_type (wpAny_pure ⟨_,rfl,KI,_,⟨_,Heap.get?_push_size _ rfl,rfl⟩,F.slot_dict_keyiterator_next.lookup,?_⟩))
 simpa [rawInt] using hQ
theorem zu7 {it d:Addr} {i ep:Nat} {es:Array DictEntry} {e:DictEntry} {Q:Option Value→Shared→Prop} (hit:s.heap.IsKeyIter it d i es.size ep) (hm:DE s.heap d es ep) (hx:es[i]? =some e)
  (hQ: ∀h',h'.IsKeyIter it d (i+1) es.size ep→Heap.SameBut it s.heap h'→Q (some e.key) {s with heap:=h'}):wpAny (model prog w) A (pyNext (.ref it)) Q E s:=by
 obtain ⟨o,ho,hc,hd⟩:=id hit
 obtain ⟨od,hod,hcd,hdd⟩:=id hm
 unfold pyNext
 refine wpAny_bind (wpAny_attempt (wpAny_callSpecial?_slot (name:=Str.ofString "__next__") hit.typeIs F.slot_dict_keyiterator_next (wpAny_call_entry F.slot_dict_keyiterator_next hit.typeIs F.entry_dict_keyiterator_next ?_ (F.args_dict_keyiterator_next_1 _))))
 refine wpAny_bind (wpAny_pure (wpAny_bind (wpAny_bind ?_)))
 first | refine wpAny_bind (wpAny_typeNameOfWhole_keyiter hit.typeIs (wpAny_pure (wpAny_bind (wpAny_fieldsOf ho hd ?_)))) | refine wpAny_bind (wpAny_typeNameOf_keyiter hit.typeIs (wpAny_pure (wpAny_bind (wpAny_fieldsOf ho hd ?_))))
 have hown:Builtin.Dict_items.ownsTuple KI=false:=by decide
 simp only [hown,Bool.false_eq_true,if_false]
 show wpAny _ _ (if (Value.ref d==Value.none)=true then _ else _) _ _ s;rw [if_neg (show ¬((Value.ref d==Value.none)=true) from Bool.false_ne_true)]
 refine wpAny_bind (wpAny_pure (wpAny_bind (wpAny_dictEntries hod hdd ?_)))
 rw [if_neg (by simp)]
 refine wpAny_bind (wpAny_pure (wpAny_bind (wpAny_dictEpoch hod hdd ?_)))
 rw [if_neg (by simp)]
 refine wpAny_pure ?_
 simp only [show ¬((i:Int) < 0) from by omega,if_false,Int.toNat_natCast,hx]
 refine wpAny_bind ?_
 first | refine wpAny_bind (wpAny_typeNameOfWhole_keyiter hit.typeIs (wpAny_pure (wpAny_bind (wpAny_isOneOf_keyiter hit.typeIs ?_)))) | refine wpAny_bind (wpAny_typeNameOf_keyiter hit.typeIs (wpAny_pure (wpAny_bind (wpAny_isOneOf_keyiter hit.typeIs ?_))))
 show wpAny _ _ (setField (.ref it) 1 (rawInt ((i:Int)+1)) >>=_) _ _ s;refine wpAny_bind (wpAny_setField ho hd (by simp) ?_)
 have hit':(s.heap.update it (Obj.mapFields (fun z=>z.setIfInBounds 1 (rawInt ((i:Int)+1))))).IsKeyIter it d (i+1) es.size ep:=
  ⟨_,Heap.get?_update_self _ ho (Obj.isFreed_of_fields (Obj.data_mapFields hd _)),(Obj.cls_mapFields ..).trans hc,by rw [Obj.data_mapFields hd];simp [rawInt]⟩
 refine wpAny_bind (wpAny_holding (wpAny_bind (wpAny_isOneOf_keyiter (s:={s with heap:=s.heap.update it (Obj.mapFields (fun z=>z.setIfInBounds 1 (rawInt ((i:Int)+1))))}) hit'.typeIs ?_)))
 show wpAny _ _ (pure e.key) _ _ _
 exact wpAny_pure (wpAny_pure ⟨_,rfl,wpAny_pure (hQ _ hit' (Heap.SameBut.update ..))⟩)
theorem zxc {it d:Addr} {i ep:Nat} {es:Array DictEntry} {Q:Option Value→Shared→Prop} (hh:A.handled=none) (hit:s.heap.IsKeyIter it d i es.size ep) (hm:DE s.heap d es ep) (hx:es.size≤i)
  (hQ: ∀h',Heap.ExtBut it s.heap h'→Q none {s with heap:=h'}):wpAny (model prog w) A (pyNext (.ref it)) Q E s:=by
 obtain ⟨o,ho,hc,hd⟩:=id hit
 obtain ⟨od,hod,hcd,hdd⟩:=id hm
 unfold pyNext
 refine wpAny_bind (wpAny_attempt (wpAny_callSpecial?_slot (name:=Str.ofString "__next__") hit.typeIs F.slot_dict_keyiterator_next (wpAny_call_entry F.slot_dict_keyiterator_next hit.typeIs F.entry_dict_keyiterator_next ?_ (F.args_dict_keyiterator_next_1 _))))
 refine wpAny_bind (wpAny_pure (wpAny_bind (wpAny_bind ?_)))
 first | refine wpAny_bind (wpAny_typeNameOfWhole_keyiter hit.typeIs (wpAny_pure (wpAny_bind (wpAny_fieldsOf ho hd ?_)))) | refine wpAny_bind (wpAny_typeNameOf_keyiter hit.typeIs (wpAny_pure (wpAny_bind (wpAny_fieldsOf ho hd ?_))))
 have hown:Builtin.Dict_items.ownsTuple KI=false:=by decide
 simp only [hown,Bool.false_eq_true,if_false]
 show wpAny _ _ (if (Value.ref d==Value.none)=true then _ else _) _ _ s;rw [if_neg (show ¬((Value.ref d==Value.none)=true) from Bool.false_ne_true)]
 refine wpAny_bind (wpAny_pure (wpAny_bind (wpAny_dictEntries hod hdd ?_)))
 rw [if_neg (by simp)]
 refine wpAny_bind (wpAny_pure (wpAny_bind (wpAny_dictEpoch hod hdd ?_)))
 rw [if_neg (by simp)]
 refine wpAny_pure ?_
 simp only [show ¬((i:Int) < 0) from by omega,if_false,Int.toNat_natCast,Array.getElem?_eq_none hx]
 refine wpAny_bind ?_
 first | refine wpAny_bind (wpAny_typeNameOfWhole_keyiter hit.typeIs (wpAny_pure ?_)) | refine wpAny_bind (wpAny_typeNameOf_keyiter hit.typeIs (wpAny_pure ?_))
 show wpAny _ _ (setField (.ref it) 0 .none >>=_) _ _ s;refine wpAny_bind (wpAny_setField ho hd (by simp) ?_)
 show wpAny _ _ (newExc (.type "StopIteration") [] >>=_) _ _ _;refine wpAny_bind ?_
 simp only [newExc,newTuple];refine wpAny_bind (wpAny_newObj_type ?_ (by size_fits))
 refine wpAny_bind (m:=firstArgMember _ _) (wpAny_of_eq (a:=Value.none) (by first | rfl | (simp only [firstArgMember];rfl)) (wpAny_newObj_type ?_ (by size_fits)))
 simp only [raiseNew];refine wpAny_bind (wpAny_handled ?_)
 rw [show A.in1.handled=none from hh];refine wpAny_bind (wpAny_pure (wpAny_throw ?_))
 refine wpAny_bind (wpAny_isInstance (T:="StopIteration") (b:=true) ⟨_,Heap.get?_push_size _ rfl,rfl⟩ isSubtype_stop (wpAny_pure (hQ _ (((Heap.SameBut.update ..).extBut.push _).push _))))
end
def Itd (a:Addr) (n:Nat):It:=⟨fun i H=> ∃kvs,H a=some (.dT kvs)∧kvs.length=n∧i < n,fun i H x H'=>H'=H∧∀kvs,H a=some (.dT kvs)→∃k v,kvs[i]? =some (k,v)∧KyT H k x,fun i H=> ∃kvs,H a=some (.dT kvs)∧kvs.length=n∧n≤i⟩
theorem KyV.val {H:Hp}: ∀{k:MK} {u:Value},KyV H k u→∃x,RelV x u∧KyT H k x
 | .one k,u,r=>⟨kV k,r,rfl⟩
 | .tup ks,u,⟨b,e,q⟩=>⟨.ref b,e,b,rfl,q⟩
theorem DictM.at {P:Program} {w:World} {h:Heap} {a:Addr} {xs:Tr} (hm:DictM P w h a xs): ∃es,DE h a es xs.length∧es.toList=xs.map (yw P w)∧es.size=xs.length:=by
 obtain ⟨o,es,ep,g1,g2,g3,g4,⟨g5,g6⟩,g7⟩:=hm
 subst g6
 exact ⟨es,⟨o,g1,g2,g3⟩,g4,by rw [←Array.length_toList,g4,List.length_map]⟩
theorem zoi {P:Program} {w:World} {K:PySem.W.Frag} {tg:Expr} (a it:Addr) (n:Nat):Turn P w K tg (Itd a n) [it] it (fun i h=>h.IsKeyIter it a i n n) where
 mem:=by simp
 obj:=fun i h st b hb=>by
  have e:b=it:=by simpa using hb
  subst e
  obtain ⟨o,e,c,d⟩:=st
  exact ⟨o,e,fun v z=>by rw [d] at z;cases z⟩
 keep:=fun i h h' st k=>st.at fun o e=>k it (by simp) o e
 item:=by
  intro X hP hw hK hc i pins s σ H E I hf st hg
  subst hP hw hK
  obtain ⟨kvs,hq,hn,hi⟩:=hg
  obtain ⟨z,y,xs,r,hm⟩:=zqk I.hok hq
  obtain ⟨es,he,hl,hsz⟩:=hm.at
  have hlen:=Paired.length r
  obtain ⟨f0,f1,f2,f3,f4,f5⟩:=hf it (by simp)
  have e1:es.size=n:=by omega
  have e2:xs.length=n:=by omega
  rw [e2] at he
  have hie:i < es.size:=by omega
  have hix:i < xs.length:=by omega
  have hik:i < kvs.length:=by omega
  have hkey:es[i].key=xs[i].2.1:=by
   have:es.toList[i]? =(xs.map (yw X.prog X.w))[i]? :=by rw [hl]
   rw [Array.getElem?_toList,Array.getElem?_eq_getElem hie,List.getElem?_map,zy hix] at this
   rw [Option.some.inj this];rfl
  have hp:kvs[i].1=xs[i].1∧KyV H kvs[i].1 xs[i].2.1∧RelV kvs[i].2 xs[i].2.2:=by
   have gen: ∀{l:List (MK×V)} {m:Tr},KT H l m→∀(i:Nat) (h1:i < l.length) (h2:i < m.length),l[i].1=m[i].1∧KyV H l[i].1 m[i].2.1∧RelV l[i].2 m[i].2.2:=fun {l m} q=>by
    induction q with
    | nil=>intro i h1;exact absurd h1 (Nat.not_lt_zero _)
    | cons hq _ ih=>
     intro i h1 h2
     cases i with
     | zero=>exact hq
     | succ j=>exact ih j (by simpa using h1) (by simpa using h2)
   exact gen r i hik hix
  obtain ⟨x,rx,kx⟩:=hp.2.1.val
  refine zu7 (by rw [e1];exact st) he (Array.getElem?_eq_getElem hie) fun h' st' sb=>?_
  have I1:Inv X pins σ H {s with heap:=h'}:=I.turned (t':=s.toks) (fun b o hb e=>(sb.2 b hb).trans e) f0 f1 f3 f4 f5
  rw [e1] at st'
  obtain ⟨o,e,c,d⟩:=id st'
  refine ⟨es[i].key,rfl,zun (s:={s with heap:=h'}) e c d (by decide) ⟨x,H,I1,by rw [hkey];exact rx,⟨rfl,fun ws hw=>?_⟩,st',fun b hb=>(hf b hb).1⟩⟩
  rw [hq] at hw
  cases hw
  exact ⟨_,_,zy hik,kx⟩
 done:=by
  intro X hP hw hK hc i pins s σ H E I hf st hg
  subst hP hw hK
  obtain ⟨kvs,hq,hn,hi⟩:=hg
  obtain ⟨z,y,xs,r,hm⟩:=zqk I.hok hq
  obtain ⟨es,he,hl,hsz⟩:=hm.at
  have hlen:=Paired.length r
  obtain ⟨f0,f1,f2,f3,f4,f5⟩:=hf it (by simp)
  have e1:es.size=n:=by omega
  have e2:xs.length=n:=by omega
  rw [e2] at he
  exact zxc (I.ok.hd hc) (by rw [e1];exact st) he (by omega) fun h' eb=>⟨rfl,I.turned (t':=s.toks) (fun b o hb e=>eb b o hb e) f0 f1 f3 f4 f5⟩
 self:=fun _ _ _ _ _ st h=>wpAny_pyIter_keyiter st h
section
variable {X:Cx} {tg:Expr}
def zzx (tl:TE):TI:=fun σ H R=>tl σ H fun x H1=> ∃a kvs,x= .ref a∧H1 a=some (.dT kvs)∧R (Itd a kvs.length) H1
theorem ztg {l:Expr} {tl:TE} (hl:PE X l tl):PI X tg l (zzx tl):=by
 intro pins s σ H R I h
 refine zt (hl pins s σ H _ I h) fun v s1 ⟨x,H1,I1,r1,q1⟩=>?_
 obtain ⟨a,kvs,e,hq,q⟩:=q1
 subst e
 cases r1
 obtain ⟨z,y,xs,r,hm⟩:=zqk I1.hok hq
 obtain ⟨es,he,hl,hsz⟩:=hm.at
 have hlen:=Paired.length r
 refine ztr y he ?_
 have e1:es.size=kvs.length:=by omega
 rw [e1,←hlen]
 refine ⟨s1.heap.objs.size,[s1.heap.objs.size],_,_,H1,rfl,I1.kept (t':=s1.toks) fun b o e=>Heap.get?_push_of_some _ e,zoi a _ kvs.length,⟨_,Heap.get?_push_size _ rfl,rfl,rfl⟩,fun b hb=>?_,q⟩
 have e:b=s1.heap.objs.size:=by simpa using hb
 subst e
 exact I1.fpOk (Nat.le_refl _) (I1.hok.fresh (Nat.le_refl _))
end
end L2
namespace L3
open PySem PySem.Spec PyProof.Rows L2
section
variable {X:Cx} {κ:Kx} {E:XK} {F:Fr} {σ:L2.St} {H:Hp}
def mkV3:MK→V3
 | .one k=>kV3 k
 | .tup ks=> .tup (ks.map kV3)
theorem zsx {β:List (Option Addr)} {O:Addr→Prop}: ∀k:zq,Rep κ β O H (kV3 k) (kV k)
 | .inl i=> .int i
 | .inr z=> .str z
theorem znq {β:List (Option Addr)} {O:Addr→Prop}: ∀ks:List zq,Reps κ β O H (ks.map kV3) (ks.map kV)
 | []=> .nil
 | k::r=> .cons (zsx k) (znq r)
theorem zvz (rel:Rel κ F σ H): ∀{k:MK} {x:V},KyT H k x→Rep κ F.β F.O H (mkV3 k) x
 | .one k,x,e=>by
  have e:x=kV k:=e
  subst e;exact zsx k
 | .tup ks,x,⟨b,e,q⟩=>by
  subst e
  refine .tup q (fun z=>?_) (fun z=>?_) (znq ks)
  ·obtain ⟨i,hi⟩:=List.getElem?_of_mem z
   obtain ⟨o,ho,n⟩:=rel.heap.btr i b hi
   rw [q] at ho;cases ho;exact n _ rfl
  ·obtain ⟨o,ho,n⟩:=rel.heap.trk b z
   rw [q] at ho;cases ho;exact n _ rfl
def iD (p:P3):I3:=fun s h=>(p s h).bind fun f h1=>match f with
 | .x (.dT kvs)=> .ok ⟨[.dT kvs],kvs.map fun kv=>mkV3 kv.1,fun _=>True⟩ h1
 | _=> .no
theorem RepP.keys {α:Type} {β:List (Option Addr)} {O:Addr→Prop}: ∀{kvs:List (α×V3)} {ws:List (α×V)},RepP κ β O H kvs ws→kvs.map (·.1)=ws.map (·.1)
 | _,_,.nil=>rfl
 | _,_,.cons _ r=>by rw [List.map_cons,List.map_cons,RepP.keys r]
theorem zvv {tg l:Expr} {d:P3} (hl:PE X l (zl κ E d)):PI X tg l (yC κ E (iD d)):=PIw (ztg hl) fun σ H R ⟨F,rel,o⟩=>
 (zY (K:=kP κ) km_I rel o).mono fun v H1 ⟨β1,h1,f,e1,⟨r1,rf⟩,o1⟩=>by
  match f,rf,o1 with
  | .x (.dT kvs),rf,o1=>
   have rf:Rep κ β1 F.O H1 (.dT kvs) v:=rf
   cases rf with
   | @dT _ ws a g1 g2 g3 g4=>
    have ek:=RepP.keys g4
    have el:kvs.length=ws.length:=by have:=congrArg List.length ek;simpa using this
    refine ⟨a,ws,rfl,g1,o1 β1 _ H1 Ext.refl ⟨r1,[.ref a],.cons (.dT g1 g2 g3 g4) .nil,fun F' σ' H' rel' r' _ i=>?_⟩⟩
    cases r' with
    | cons r'' _=>
     cases r'' with
     | @dT _ ws' _ q1 q2 q3 q4=>
      have ek':=RepP.keys q4
      have el':kvs.length=ws'.length:=by have:=congrArg List.length ek';simpa using this
      refine ⟨fun hi=>⟨⟨ws',q1,by omega,?_⟩,fun y H'' ⟨e,yl⟩=>?_⟩,fun hi=>⟨ws',q1,by omega,?_⟩⟩
      ·rw [List.length_map] at hi;omega
      ·subst e
       obtain ⟨k,v,hk,ky⟩:=yl ws' q1
       refine ⟨mkV3 k,?_,Ext.refl,rel',zvz rel' ky⟩
       have e3:(kvs.map (·.1))[i]? =(ws'.map (·.1))[i]? :=by rw [ek']
       rw [List.getElem?_map,List.getElem?_map,hk] at e3
       rw [List.getElem?_map]
       cases e4:kvs[i]? with
       | none=>rw [e4] at e3;cases e3
       | some z=>rw [e4] at e3;exact congrArg some (congrArg mkV3 (Option.some.inj e3))
      ·rw [List.length_map] at hi;omega
theorem zkt {i:Nat} {pos:Pos} {y:Str} {py spos:Pos} {elt tg iter:Expr} {ifs:List Expr} {loc free:List Str} {fr:List Nat} {scope:Scope} {it:I3} {g:G3} {c:T3} {d:E3} (hN:X.N.Nodup) (hi':X.N[i]? =some y) (hx:X.env.scope.names.lookup y=some .local) (hc:X.calm=true) (S:CompScope X loc free fr scope) (hi:PI X tg iter (yC κ E it))
 (hg: ∀cl C s H ex,PG (yU X (loc++free) scope cl C s H ex) tg (yK κ g)) (ht: ∀cl C s H ex,PTs (yU X (loc++free) scope cl C s H ex) ifs (zL κ E0 c)) (he: ∀cl C s H ex,PE (yU X (loc++free) scope cl C s H ex) elt (zf κ E0 d))
 (hs: ∀x,foldedSetIterable iter X.env x=pure x:=by intro _;rfl) (hsw:swapsWith (.ListComp elt [⟨tg,iter,ifs,0⟩] scope pos) (some (.Name y py)) spos.line X.env=pure true:=by rfl):
 PS X (.Assign [.Name y py] (.ListComp elt [⟨tg,iter,ifs,0⟩] scope pos) spos) (zx κ E (sSet i (eGl (yS loc.length fr it g c d)))):=qp (zhs hN hi' hx hc S hi hg ht he hs hsw) fun D σ H h=>zkl (zys (zoa h))
end
end L3
namespace My
open PySem L2 L3
def zc8:D3:=(sSeq (sIf (tE (eOp oLt (pV 1) (pE (eB bLen (aCons (pV 0) aNil))))) (sRet (eOp zr (pV 0) (pV 1))) sSkip) (sSeq (sSet 2 (eOp zi (pE (eOp yc (pE (eC (.int 7919))) (pV 1))) (pE (eC (.int 101))))) (sSeq (sIf (tE (eOp oGt (pE (eB bLen (aCons (pV 0) aNil))) (pE (eC (.int 0))))) (sSet 2 (eOp zi (pV 2) (pE (eOp yc (pE (eOp zF (pE (eOp zr (pV 0) (pE (eOp zF (pE (eOp yc (pE (eC (.int 7))) (pV 1))) (pE (eB bLen (aCons (pV 0) aNil))))))) (pE (eC (.int 1000003))))) (pE (eOp zi (pV 1) (pE (eC (.int 3))))))))) sSkip) (sRet (eOp zF (pE (eOp yc (pV 2) (pV 2))) (pE (eC (.int 1000003))))))))
def f_law_cell:F3:=fun3 2 3 zc8
theorem zbh:zE f_law_cell 2:=zN
def zdy:D3:=(zo (iR1 (aCons (pV 1) aNil)) (gN 3) (sSeq (sSet 4 (eCall f_law_cell (aCons (pV 0) (aCons (pE (eOp zi (pE (eC (.int 3))) (pV 3))) aNil)))) (sSeq (sSet 5 (eOp zi (pE (eC (.int 1))) (pE (eOp zF (pV 4) (pE (eC (.int 9))))))) (sSeq (sIf (tE (eOp yO (pE (eOp zF (pE (eOp ya (pV 4) (pE (eC (.int 9))))) (pE (eC (.int 7))))) (pE (eC (.int 3))))) (sSet 5 (eOp zi (pE (eC (.int 1))) (pE (eOp zF (pE (eOp ya (pV 4) (pE (eC (.int 63))))) (pE (eOp oPow (pE (eC (.int 10))) (pE (eC (.int 5))))))))) sSkip) (sSeq (sFz 5) (qi yV (pV 2) (aCons (pE (eTup (aCons (pV 5) (aCons (pE (eOp zF (pE (eOp ya (pV 4) (pE (eC (.int 11))))) (pE (eC (.int 17))))) aNil)))) aNil)))))))
def zfi:D3:=(sSeq (sSet 2 (eLst aNil)) (sSeq zdy (sRetS 2)))
def f_law_days:F3:=fun3 2 6 zfi
theorem zk1:zE f_law_days 2:=zN
def zdl:D3:=(zo (iL (pV 0)) (gT (gsCons (gN 4) (gsCons (gN 5) gsNil))) (sSeq (sFz 3) (sSeq (qi yV (pV 2) (aCons (pE (eTup (aCons (pV 3) (aCons (pE (eOp yd (pE (eOp zi (pV 3) (pV 4))) (pE (eC (.int 1))))) (aCons (pV 5) aNil))))) aNil)) (sSet 3 (eOp zi (pV 3) (pV 4))))))
def zep:D3:=(sSeq (sSet 2 (eLst aNil)) (sSeq (sSet 3 (eC (.int 0))) (sSeq zdl (sSeq (sFz 3) (sSeq (qi yV (pV 2) (aCons (pE (eTup (aCons (pV 3) (aCons (pE (eOp zi (pV 3) (pE (eC (.int 9))))) (aCons (pV 1) aNil))))) aNil)) (sRetS 2))))))
def f_law_cells:F3:=fun3 2 6 zep
theorem zi6:zE f_law_cells 2:=zN
def zcg:D3:=(zo (iR1 (aCons (pV 3) aNil)) (gN 8) (sSeq (sSet 9 (eOp zi (pE (eOp ya (pV 0) (pE (eOp zi (pE (eC (.int 64))) (pE (eOp yc (pE (eC (.int 29))) (pV 8))))))) (pE (eOp yc (pV 6) (pE (eB bInt (aCons (pE (eOp yO (pV 8) (pV 4))) aNil))))))) (sIf (tE (eOp yO (pV 8) (pE (eC (.int 0))))) (sSet 7 (eOp zi (pV 7) (pE (eOp zr (pV 2) (pE (eOp zF (pV 9) (pE (eC (.int 26))))))))) (sSet 7 (eOp zi (pV 7) (pE (eOp zr (pE (eOp zi (pV 2) (pE (eC (.str ("0123456789" :Str)))))) (pE (eOp zF (pV 9) (pE (eC (.int 36))))))))))))
def zdf:D3:=(zo (iR1 (aCons (pV 1) aNil)) (gN 6) (sSeq (sSet 7 (eC (.str ("" :Str)))) (sSeq (sFz 3) (sSeq zcg (sSeq (sFz 7) (qi yV (pV 5) (aCons (pV 7) aNil)))))))
def zen:D3:=(sSeq (sSet 2 (eC (.str ("abcdefghijklmnopqrstuvwxyz" :Str)))) (sSeq (sSet 3 (eOp zi (pE (eC (.int 1))) (pE (eOp zF (pV 0) (pE (eC (.int 8))))))) (sSeq (sSet 4 (eOp zF (pE (eOp ya (pV 0) (pE (eC (.int 8))))) (pV 3))) (sSeq (sSet 5 (eLst aNil)) (sSeq zdf (sRetS 5))))))
def f_law_names:F3:=fun3 2 10 zen
theorem zjf:zE f_law_names 2:=zN
def za3:D3:=(zo (iR2 (aCons (pV 7) (aCons (pE (eOp zi (pV 7) (pV 6))) aNil))) (gN 8) (qi yV (pV 4) (aCons (pE (eTup (aCons (pE (eOp zi (pV 1) (pE (eOp zF (pV 8) (pV 2))))) (aCons (pE (eOp ya (pV 8) (pV 2))) (aCons (pE (eOp zr (pV 5) (pE (eC (.int 0))))) aNil))))) aNil)))
def zce:D3:=(zo (zmy (aCons (pV 0) (aCons (pV 3) aNil))) (gT (gsCons (gN 5) (gsCons (gN 6) gsNil))) (sSeq (sSet 7 (eB bLen (aCons (pV 4) aNil))) za3))
def zcz:D3:=(sSeq (sSet 4 (eLst aNil)) (sSeq zce (sRetS 4)))
def f_laid_in_cell:F3:=fun3 4 9 zcz
theorem zf8:zE f_laid_in_cell 4:=zN
def zfz:E3:=(yS 1 [4] (iL (pV 2)) (gN 0) tTru (eOp zr (pV 0) (pV 1)))
def zim:D3:=(zo (qy (aCons (pV 1) aNil)) (gT (gsCons (gN 4) (gsCons (gN 5) gsNil))) (sSeq (sSet 6 zfz) (sSeq (sFz 6) (qi zgr (pV 3) (aCons (pE (eCall f_laid_in_cell (aCons (pV 0) (aCons (pE (eOp zr (pV 5) (pE (eC (.int 0))))) (aCons (pE (eOp zi (pE (eOp yd (pE (eOp zr (pV 5) (pE (eC (.int 1))))) (pE (eOp zr (pV 5) (pE (eC (.int 0))))))) (pE (eC (.int 1))))) (aCons (pV 6) aNil)))))) aNil)))))
def zqg:D3:=(sSeq (sSet 3 (eLst aNil)) (sSeq zim (sRet (eB qZ (aCons (pV 3) aNil)))))
def f_laid:F3:=fun3 3 7 zqg
theorem zue:zE f_laid 3:=zN
def zbd:D3:=(zo (iL (pV 0)) (gT (gsCons (gN 2) (gsCons (gN 3) gsNil))) (sIf (tAnd3 (tP (pV 1)) (tE (eOp yO (pE (eOp zr (pE (eOp zr (pV 1) (pE (eNeg (pE (eC (.int 1))))))) (pE (eC (.int 1))))) (pV 3)))) (zgl (pV 1) (pE (eNeg (pE (eC (.int 1))))) (eTup (aCons (pE (eOp zi (pE (eOp zr (pE (eOp zr (pV 1) (pE (eNeg (pE (eC (.int 1))))))) (pE (eC (.int 0))))) (pV 2))) (aCons (pV 3) aNil)))) (qi yV (pV 1) (aCons (pE (eTup (aCons (pV 2) (aCons (pV 3) aNil)))) aNil))))
def zbt:D3:=(sSeq (sSet 1 (eLst aNil)) (sSeq zbd (sRetS 1)))
def f_neighbours_as_one:F3:=fun3 1 4 zbt
theorem zec:zE f_neighbours_as_one 1:=zN
def zcn:D3:=(sSeq (sSet 2 (eCall f_neighbours_as_one (aCons (pV 0) aNil))) (sSeq (sIf (tAnd3 (tP (pV 2)) (tE (eOp yO (pE (eOp zr (pE (eOp zr (pV 2) (pE (eNeg (pE (eC (.int 1))))))) (pE (eC (.int 1))))) (pV 1)))) (qi mPop (pV 2) aNil) sSkip) (sRetS 2)))
def f_kept_rows:F3:=fun3 2 3 zcn
theorem zjb:zE f_kept_rows 2:=zN
def zfj:D3:=(sRet (eAnd (eB bIsT (aCons (pV 0) (aCons (pE (eC (.ty "int"))) aNil))) (eNot (eB bIsT (aCons (pV 0) (aCons (pE (eC (.ty "bool"))) aNil))))))
def f_is_whole:F3:=fun3 1 1 zfj
theorem zka:zE f_is_whole 1:=zN
def zb6:D3:=(sRet (eAnd (eCall f_is_whole (aCons (pV 0) aNil)) (eChain qt qt (pV 1) (pV 0) (pV 2))))
def f_is_whole_between:F3:=fun3 3 3 zb6
theorem zbq:zE f_is_whole_between 3:=zN
def zdk:D3:=(sRet (eCall f_is_whole_between (aCons (pV 0) (aCons (pE (eC (.int 0))) (aCons (pE (eC (.int 16))) aNil)))))
def f_is_machines:F3:=fun3 1 1 zdk
theorem zg3:zE f_is_machines 1:=zN
def zcc:D3:=(sSeq (sIf (tOr3 (tNot3 (tE (eB bIsT (aCons (pV 0) (aCons (pE (eC (.ty "tuple"))) aNil))))) (tE (eOp qd (pE (eB bLen (aCons (pV 0) aNil))) (pE (eC (.int 2)))))) (sRet (eC (.bl false))) sSkip) (sRet (eAnd (eCall f_is_whole_between (aCons (pE (eOp zr (pV 0) (pE (eC (.int 0))))) (aCons (pE (eC (.int 1))) (aCons (pE (eC (.int 1000000))) aNil)))) (eCall f_is_machines (aCons (pE (eOp zr (pV 0) (pE (eC (.int 1))))) aNil)))))
def f_is_calendar_row:F3:=fun3 1 1 zcc
theorem zev:zE f_is_calendar_row 1:=zN
def za5:E3:=(yS 1 [] (iL (pV 0)) (gN 0) tTru (eCall f_is_calendar_row (aCons (pV 0) aNil)))
def zbp:D3:=(sSeq (sIf (tOr3 (tNot3 (tE (eB bIsT (aCons (pV 0) (aCons (pE (eC (.ty "list"))) aNil))))) (tE (eOp oGt (pE (eB bLen (aCons (pV 0) aNil))) (pE (eC (.int 16)))))) (sRet (eC (.bl false))) sSkip) (sRet (eB (bAll fun bs=>bs.all id) (aCons (pE za5) aNil))))
def f_are_calendar_rows:F3:=fun3 1 1 zbp
theorem zeb:zE f_are_calendar_rows 1:=zN
def zga:D3:=(sRet (eCall f_is_whole_between (aCons (pV 0) (aCons (pE (eC (.int 1))) (aCons (pE (eC (.int 16))) aNil)))))
def f_is_rest:F3:=fun3 1 1 zga
theorem znd:zE f_is_rest 1:=zN
def zcu:D3:=(sSeq (sIf (tOr3 (tNot3 (tE (eCall f_are_calendar_rows (aCons (pV 1) aNil)))) (tNot3 (tE (eCall f_is_rest (aCons (pV 2) aNil))))) sNever sSkip) (sSeq (zqj [("Calendar" :Str)] ("stretches" :Str) (pV 0) (eCall f_kept_rows (aCons (pV 1) (aCons (pV 2) aNil)))) (zqj [("Calendar" :Str)] ("beyond" :Str) (pV 0) (eV 2))))
def f_Calendar_init:F3:=fun3 3 3 zcu
theorem zft:zE f_Calendar_init 3:=zN
def zc5:D3:=(zo (qy (aCons (pV 4) aNil)) (gT (gsCons (gN 7) (gsCons (gN 8) gsNil))) (sSeq (sSet 9 (eC (.int 0))) (sSeq (sIf (tE (eChain qt qt (pE (eOp zr (pV 3) (pE (eC (.int 0))))) (pV 7) (pE (eOp zr (pV 3) (pE (eC (.int 1))))))) (sSeq (sSet 10 (eB bMin3 (aCons (pE (eOp yc (pE (eOp zr (pV 2) (pE (eC (.int 4))))) (pE (eOp zi (pE (eOp yd (pE (eOp zr (pV 8) (pE (eC (.int 1))))) (pE (eOp zr (pV 8) (pE (eC (.int 0))))))) (pE (eC (.int 1))))))) (aCons (pE (eOp zr (pV 5) (pV 7))) (aCons (pE (eOp yd (pE (eOp zr (pV 2) (pE (eC (.int 3))))) (pE (eB ye (aCons (pV 6) aNil))))) aNil))))) (sSeq (sSet 11 (eCall f_law_cell (aCons (pV 0) (aCons (pE (eOp zF (pE (eOp zi (pE (eOp zi (pE (eC (.int 24))) (pE (eOp yc (pV 1) (pE (eB bLen (aCons (pV 4) aNil))))))) (pV 7))) (pE (eB bMax (aCons (pE (eC (.int 63))) (aCons (pE (eB bLen (aCons (pV 0) aNil))) aNil)))))) aNil)))) (sSeq (sSet 9 (eOp zF (pE (eOp ya (pV 11) (pE (eC (.int 3))))) (pE (eOp zi (pV 10) (pE (eC (.int 1))))))) (sIf (tE (eOp yO (pE (eOp zF (pV 11) (pE (eC (.int 3))))) (pE (eC (.int 0))))) (sSet 9 (eV 10)) sSkip)))) sSkip) (sSeq (zgl (pV 5) (pV 7) (eOp yd (pE (eOp zr (pV 5) (pV 7))) (pV 9))) (qi yV (pV 6) (aCons (pV 9) aNil))))))
def zdw:D3:=(sSeq (sSet 6 (eLst aNil)) (sSeq zc5 (sRetS 6)))
def f_law_shares:F3:=fun3 6 12 zdw
theorem zi1:zE f_law_shares 6:=zN
def zbf:E3:=(yS 1 [5,7] (iL (pV 0)) (gN 0) (tAnd3 (tE (eOp yO (pE (eOp zr (pV 0) (pE (eC (.int 2))))) (pE (eOp zr (pV 1) (pE (eC (.int 0))))))) (tE (eChain qt qt (pE (eOp zr (pV 2) (pE (eC (.int 0))))) (pE (eOp zr (pV 0) (pE (eC (.int 0))))) (pE (eOp zr (pV 2) (pE (eC (.int 1)))))))) (eV 0))
def zbe:E3:=(yS 1 [7] (iL (pV 8)) (gN 0) (tNot3 (tE (eChain qt oLt (pE (eC (.int 0))) (pE (eOp zr (pV 0) (pE (eC (.int 1))))) (pE (eOp zr (pV 1) (pE (eC (.int 2)))))))) (eV 0))
def zb7:D3:=(zo (qy (aCons (pV 2) aNil)) (gT (gsCons (gN 6) (gsCons (gN 7) gsNil))) (sSeq (sSet 8 zbf) (sSeq (sFz 8) (sIf (tOr3 (tE (eOp qd (pE (eB bLen (aCons (pV 8) aNil))) (pE (eOp zr (pE (eOp zr (pV 3) (pV 4))) (pV 6))))) (tE (eOp oGt (pE (eB bLen (aCons (pE zbe) aNil))) (pE (eC (.int 0)))))) (sRet (eC (.bl false))) sSkip))))
def zcq:D3:=(zo (qy (aCons (pV 1) aNil)) (gT (gsCons (gN 4) (gsCons (gN 5) gsNil))) zb7)
def zb4:E3:=(yS 1 [] (iL (pV 3)) (gN 0) tTru (eB ye (aCons (pV 0) aNil)))
def zdh:D3:=(sSeq zcq (sRet (eOp yO (pE (eB bLen (aCons (pV 0) aNil))) (pE (eB ye (aCons (pE zb4) aNil))))))
def f_law_counted:F3:=fun3 4 9 zdh
theorem zg2:zE f_law_counted 4:=zN
def zc1:D3:=(zo (iL (pV 0)) (gT (gsCons (gN 4) (gsCons (gN 5) (gsCons (gN 6) gsNil)))) (sSeq (sIf (tE (eOp (oDIn false) (pE (eTup (aCons (pV 4) (aCons (pV 5) aNil)))) (pV 2))) (sRet (eC (.bl false))) sSkip) (sSeq (qS (pV 2) (pE (eTup (aCons (pV 4) (aCons (pV 5) aNil)))) (eC (.bl true))) (qS (pV 3) (pE (eTup (aCons (pV 4) (aCons (pV 6) aNil)))) (eOp zi (pE (qG (pV 3) (pE (eTup (aCons (pV 4) (aCons (pV 6) aNil)))) (pE (eC (.int 0))))) (pE (eC (.int 1))))))))
def zc4:D3:=(zo (iL (pV 1)) (gN 8) (qS (pV 7) (pE (eOp zr (pV 8) (pE (eC (.int 0))))) (eOp zr (pV 8) (pE (eC (.int 4))))))
def zcd:E3:=(yS 1 [3,7] (iD (pV 3)) (gN 0) (tE (eOp oGt (pE (eOp znf (pV 1) (pV 0))) (pE (eOp znf (pV 2) (pE (eOp zr (pV 0) (pE (eC (.int 1))))))))) (eV 0))
def zdu:D3:=(sSeq (sSet 2 eDnT) (sSeq (sSet 3 eDnT) (sSeq zc1 (sSeq (sSet 7 eDnT) (sSeq zc4 (sSeq (sFz 7) (sSeq (sFz 3) (sRet (eOp yO (pE zcd) (pE (eLst aNil)))))))))))
def f_law_seated:F3:=fun3 2 9 zdu
theorem zih:zE f_law_seated 2:=zN
def zcm:D3:=(zo (iL (pE (eFld [("Calendar" :Str)] ("stretches" :Str) (pV 0)))) (gT (gsCons (gN 3) (gsCons (gN 4) gsNil))) (sSeq (sAug 2 zm4 (pV 3)) (sIf (tE (eOp oLt (pV 1) (pV 2))) (sRetS 4) sSkip)))
def zdi:D3:=(sSeq (sSet 2 (eC (.int 0))) (sSeq zcm (sRet (eFld [("Calendar" :Str)] ("beyond" :Str) (pV 0)))))
def f_Calendar_at:F3:=fun3 2 5 zdi
theorem zg5:zE f_Calendar_at 2:=zN
def ja:D3:=(sSeq (sAsg (gT (gsCons (gN 4) (gsCons (gN 5) (gsCons (gN 6) gsNil)))) (eV 0)) (sSeq (sIf (tE (eOp (oIsN false) (pV 1) (pE (eC .non)))) (sRet (eC (.str ("name" :Str)))) sSkip) (sSeq (sIf (tNot3 (tE (eChain qt qt (pE (eOp zr (pV 1) (pE (eC (.int 1))))) (pV 4) (pE (eOp zr (pV 1) (pE (eC (.int 2)))))))) (sRet (eC (.str ("window" :Str)))) sSkip) (sSeq (sIf (tNot3 (tE (eChain qt oLt (pE (eC (.int 0))) (pV 5) (pE (zix ("Calendar" :Str) ("at" :Str) f_Calendar_at (pV 2) (aCons (pV 4) aNil)))))) (sRet (eC (.str ("machine" :Str)))) sSkip) (sSeq (sIf (tE (eOp (oDIn false) (pE (eTup (aCons (pV 4) (aCons (pV 5) aNil)))) (pV 3))) (sRet (eC (.str ("taken" :Str)))) sSkip) (sSeq (sIf (tE (eOp oGe (pE (qG (pV 3) (pE (eTup (aCons (pV 4) (aCons (pV 6) aNil)))) (pE (eC (.int 0))))) (pE (eOp zr (pV 1) (pE (eC (.int 4))))))) (sRet (eC (.str ("breadth" :Str)))) sSkip) (sSeq (sIf (tE (eOp oGe (pE (qG (pV 3) (pV 6) (pE (eC (.int 0))))) (pE (eOp zr (pV 1) (pE (eC (.int 3))))))) (sRet (eC (.str ("work" :Str)))) sSkip) (sRet (eC .non)))))))))
def f_fault_word:F3:=fun3 4 7 ja
theorem zil:zE f_fault_word 4:=zN
def zdn:D3:=(zo (iL (pE (eLst (aCons (pE (eTup (aCons (pV 2) (aCons (pV 3) aNil)))) (aCons (pE (eTup (aCons (pV 2) (aCons (pV 4) aNil)))) (aCons (pV 4) aNil)))))) (gN 5) (qS (pV 1) (pV 5) (eOp zi (pE (qG (pV 1) (pV 5) (pE (eC (.int 0))))) (pE (eC (.int 1))))))
def zej:D3:=(sSeq (sAsg (gT (gsCons (gN 2) (gsCons (gN 3) (gsCons (gN 4) gsNil)))) (eV 0)) zdn)
def f_count_row:F3:=fun3 2 6 zej
theorem zjh:zE f_count_row 2:=zN
def zfl:D3:=(zo (iL (pV 0)) (gN 4) (qS (pV 3) (pE (eOp zr (pV 4) (pE (eC (.int 0))))) (eV 4)))
def zff:D3:=(zo (qy (aCons (pV 2) aNil)) (gT (gsCons (gN 7) (gsCons (gN 8) gsNil))) (sSeq (sSet 9 (eCall f_fault_word (aCons (pV 8) (aCons (pE (zrl (pV 3) (pE (eOp zr (pV 8) (pE (eC (.int 2))))))) (aCons (pV 1) (aCons (pV 5) aNil)))))) (sSeq (sIf (tE (eOp (oIsN true) (pV 9) (pE (eC .non)))) (sSeq (sFz 9) (qi yV (pV 6) (aCons (pE (eTup (aCons (pV 7) (aCons (pV 9) aNil)))) aNil))) sSkip) (sExp (eCall f_count_row (aCons (pV 8) (aCons (pV 5) aNil)))))))
def zh8:D3:=(sSeq (sSet 3 eDnT) (sSeq zfl (sSeq (sSet 5 (eGl eDnT)) (sSeq (sSet 6 (eLst aNil)) (sSeq zff (sRetS 6))))))
def f_faults:F3:=fun3 3 10 zh8
theorem znx:zE f_faults 3:=zN
def zbo:E3:=(yS 1 [1] (iL (pV 0)) (gN 0) (tE (eOp yO (pE (eOp zr (pV 0) (pE (eC (.int 2))))) (pV 1))) (eOp zr (pV 0) (pE (eC (.int 0)))))
def zc3:D3:=(sRet zbo)
def f_turns_worked:F3:=fun3 2 2 zc3
theorem zf6:zE f_turns_worked 2:=zN
def zd5:E3:=(yS 1 [1] (iL (pV 0)) (gN 0) tTru (eB bMax (aCons (pE (eC (.int 0))) (aCons (pE (eOp yd (pE (eOp zr (pV 0) (pE (eC (.int 3))))) (pE (eB bLen (aCons (pE (eCall f_turns_worked (aCons (pV 1) (aCons (pE (eOp zr (pV 0) (pE (eC (.int 0))))) aNil)))) aNil))))) aNil))))
def zii:D3:=(sRet zd5)
def f_undone:F3:=fun3 2 2 zii
theorem zp0:zE f_undone 2:=zN
def zi0:E3:=(yS 3 [] (iL (pV 3)) (gT (gsCons (gN 0) (gsCons (gN 1) (gsCons (gN 2) gsNil)))) tTru (eOp yc (pV 2) (pE (eOp zi (pE (eOp yd (pV 1) (pV 0))) (pE (eC (.int 1)))))))
def zj6:D3:=(zo (qy (aCons (pV 4) aNil)) (gT (gsCons (gN 8) (gsCons (gN 9) gsNil))) (sSeq (sSet 10 (eCall f_law_cell (aCons (pV 0) (aCons (pE (eOp zi (pE (eC (.int 9))) (pV 8))) aNil)))) (sSeq (sSet 11 (eOp zF (pV 10) (pE (eB bLen (aCons (pV 3) aNil))))) (sSeq (sSet 12 (eOp zi (pV 11) (pE (eOp zF (pE (eOp ya (pV 10) (pE (eC (.int 7))))) (pE (eOp yd (pE (eB bLen (aCons (pV 3) aNil))) (pV 11))))))) (sSeq (sSet 13 (eTup (aCons (pV 9) (aCons (pE (eOp zr (pE (eOp zr (pV 3) (pV 11))) (pE (eC (.int 0))))) (aCons (pE (eOp zr (pE (eOp zr (pV 3) (pV 12))) (pE (eC (.int 1))))) (aCons (pE (eOp zi (pE (eC (.int 1))) (pE (eOp zF (pE (eOp ya (pV 10) (pE (eC (.int 49))))) (pE (eC (.int 60))))))) (aCons (pE (eOp zi (pE (eC (.int 1))) (pE (eOp zF (pE (eCall f_law_cell (aCons (pV 0) (aCons (pE (eOp zi (pE (eC (.int 17))) (pV 8))) aNil)))) (pE (eC (.int 16))))))) aNil))))))) (sSeq (qi yV (pV 6) (aCons (pV 13) aNil)) (sSeq (sFz 3) (sSeq (sFz 12) (qi yV (pV 7) (aCons (pE (eCall f_law_shares (aCons (pV 0) (aCons (pV 8) (aCons (pV 13) (aCons (pE (eTup (aCons (pV 11) (aCons (pV 12) aNil)))) (aCons (pV 3) (aCons (pV 5) aNil)))))))) aNil))))))))))
def zig:E3:=(yS 2 [] (zmy (aCons (pV 6) (aCons (pV 7) aNil))) (gT (gsCons (gN 0) (gsCons (gN 1) gsNil))) tTru (eOp yd (pE (eOp zr (pV 0) (pE (eC (.int 3))))) (pE (eB ye (aCons (pV 1) aNil)))))
def zk2:D3:=(zo (iL (pE (eLst (aCons (pV 14) (aCons (pE (eB bRev (aCons (pV 14) aNil))) aNil))))) (gN 17) (sSeq (sFz 16) (sSeq (sFz 6) (sIf (tOr3 (tE (eOp qd (pE (eCall f_faults (aCons (pV 6) (aCons (pV 16) (aCons (pV 17) aNil))))) (pE (eLst aNil)))) (tE (eOp qd (pE (eCall f_undone (aCons (pV 6) (aCons (pV 17) aNil)))) (pV 15)))) (sRet (eC (.bl false))) sSkip))))
def zvt:D3:=(sSeq (sSet 1 (eCall f_law_days (aCons (pV 0) (aCons (pE (eOp zi (pE (eC (.int 1))) (pE (eOp zF (pE (eCall f_law_cell (aCons (pV 0) (aCons (pE (eC (.int 0))) aNil)))) (pE (eC (.int 6))))))) aNil)))) (sSeq (sSet 2 (eOp zi (pE (eC (.int 1))) (pE (eOp zF (pE (eCall f_law_cell (aCons (pV 0) (aCons (pE (eC (.int 1))) aNil)))) (pE (eC (.int 16))))))) (sSeq (sFz 2) (sSeq (sFz 1) (sSeq (sSet 3 (eCall f_law_cells (aCons (pV 1) (aCons (pV 2) aNil)))) (sSeq (sSet 4 (eCall f_law_names (aCons (pE (eCall f_law_cell (aCons (pV 0) (aCons (pE (eC (.int 2))) aNil)))) (aCons (pE (eOp zi (pE (eC (.int 1))) (pE (eOp zF (pE (eOp ya (pE (eCall f_law_cell (aCons (pV 0) (aCons (pE (eC (.int 0))) aNil)))) (pE (eC (.int 6))))) (pE (eC (.int 8))))))) aNil)))) (sSeq (sFz 3) (sSeq (sSet 5 (eGl zi0)) (sSeq (sSet 6 (eLst aNil)) (sSeq (sSet 7 (eLst aNil)) (sSeq (sFz 4) (sSeq zj6 (sSeq (sFz 7) (sSeq (sFz 3) (sSeq (sFz 6) (sSeq (sSet 14 (eCall f_laid (aCons (pV 6) (aCons (pV 3) (aCons (pV 7) aNil))))) (sSeq (sFz 7) (sSeq (sFz 3) (sSeq (sFz 6) (sSeq (sFz 14) (sSeq (sIf (tOr3 (tE (eOp qd (pV 14) (pE (eB qZ (aCons (pV 14) aNil))))) (tOr3 (tNot3 (tE (eCall f_law_counted (aCons (pV 14) (aCons (pV 6) (aCons (pV 3) (aCons (pV 7) aNil))))))) (tNot3 (tE (eCall f_law_seated (aCons (pV 14) (aCons (pV 6) aNil))))))) (sRet (eC (.bl false))) sSkip) (sSeq (sFz 7) (sSeq (sFz 6) (sSeq (sSet 15 zig) (sSeq (sFz 2) (sSeq (sFz 1) (sSeq (sSet 16 (eObj (eNew ("Calendar" :Str) f_Calendar_init (aCons (pV 1) (aCons (pV 2) aNil))))) (sSeq (sFz 14) (sSeq zk2 (sRet (eC (.bl true))))))))))))))))))))))))))))))))
def f_law:F3:=fun3 1 18 zvt
end My
namespace My
open PySem PySem.Spec PyProof.Rows L2 L3
noncomputable def ym (i:Nat):Stmt:=PySem.Challenge.pw_dueyard_k34_whole_laid_plans_walked.main.body.getD i (.Pass ⟨0,0,0,0⟩)
abbrev zhd:Stmt:=ym 28
theorem sc_law_cell:FnScope ["_law_script","_law_k","_law_number"] ["_law_script","_law_k"] (zT zhd):=⟨rfl,rfl,rfl,by decide+kernel,rfl,by decide+kernel,by decide+kernel⟩
abbrev zhj:Stmt:=ym 30
theorem sc_law_days:FnScope ["_law_script","_law_many","_law_rows","_law_k","_law_cell_here","_law_turns"] ["_law_script","_law_many"] (zT zhj):=⟨rfl,rfl,rfl,by decide+kernel,rfl,by decide+kernel,by decide+kernel⟩
abbrev zge:Stmt:=ym 31
theorem sc_law_cells:FnScope ["_law_rows","_law_rest","_law_pieces","_law_turn","_law_turns","_law_machines"] ["_law_rows","_law_rest"] (zT zge):=⟨rfl,rfl,rfl,by decide+kernel,rfl,by decide+kernel,by decide+kernel⟩
abbrev zgu:Stmt:=ym 29
theorem sc_law_names:FnScope ["_law_cell_here","_law_many","_law_letters","_law_size","_law_at","_law_names_here","_law_k","_law_name","_law_j","_law_place"] ["_law_cell_here","_law_many"] (zT zgu):=⟨rfl,rfl,rfl,by decide+kernel,rfl,by decide+kernel,by decide+kernel⟩
abbrev zeg:Stmt:=ym 2
theorem sc_laid_in_cell:FnScope ["load","first","turns","own_shares","plan","job","share","start","position"] ["load","first","turns","own_shares"] (zT zeg):=⟨rfl,rfl,rfl,by decide+kernel,rfl,by decide+kernel,by decide+kernel⟩
abbrev znr:Stmt:=ym 3
theorem sc_laid:FnScope ["load","cells","shares","plan","place","cell","own_shares"] ["load","cells","shares"] (zT znr):=⟨rfl,rfl,rfl,by decide+kernel,rfl,by decide+kernel,by decide+kernel⟩
abbrev zch:Stmt:=ym 18
theorem sc_neighbours_as_one:FnScope ["rows","told","many","machines"] ["rows"] (zT zch):=⟨rfl,rfl,rfl,by decide+kernel,rfl,by decide+kernel,by decide+kernel⟩
abbrev zg0:Stmt:=ym 19
theorem sc_kept_rows:FnScope ["rows","rest","told"] ["rows","rest"] (zT zg0):=⟨rfl,rfl,rfl,by decide+kernel,rfl,by decide+kernel,by decide+kernel⟩
abbrev zho:Stmt:=ym 8
theorem zla:FnScope ["thing"] ["thing"] (zT zho):=⟨rfl,rfl,rfl,by decide+kernel,rfl,by decide+kernel,by decide+kernel⟩
abbrev zcw:Stmt:=ym 9
theorem zek:FnScope ["thing","low","high"] ["thing","low","high"] (zT zcw):=⟨rfl,rfl,rfl,by decide+kernel,rfl,by decide+kernel,by decide+kernel⟩
abbrev zez:Stmt:=ym 14
theorem zg9:FnScope ["thing"] ["thing"] (zT zez):=⟨rfl,rfl,rfl,by decide+kernel,rfl,by decide+kernel,by decide+kernel⟩
abbrev zda:Stmt:=ym 16
theorem ze2:FnScope ["thing"] ["thing"] (zT zda):=⟨rfl,rfl,rfl,by decide+kernel,rfl,by decide+kernel,by decide+kernel⟩
abbrev zbv:Stmt:=ym 17
theorem zea:FnScope ["thing"] ["thing"] (zT zbv):=⟨rfl,rfl,rfl,by decide+kernel,rfl,by decide+kernel,by decide+kernel⟩
abbrev zjx:Stmt:=ym 15
theorem zm7:FnScope ["thing"] ["thing"] (zT zjx):=⟨rfl,rfl,rfl,by decide+kernel,rfl,by decide+kernel,by decide+kernel⟩
abbrev zdq:Stmt:=zij (ym 20) 0
theorem zfs:FnScope ["self","rows","rest"] ["self","rows","rest"] (zT zdq):=⟨rfl,rfl,rfl,by decide+kernel,rfl,by decide+kernel,by decide+kernel⟩
abbrev zfq:Stmt:=ym 32
theorem sc_law_shares:FnScope ["_law_script","_law_j","_law_job","_law_span","_law_pieces","_law_rooms","_law_some","_law_k","_law_cell_here","_law_share","_law_most","_law_number"] ["_law_script","_law_j","_law_job","_law_span","_law_pieces","_law_rooms"] (zT zfq):=⟨rfl,rfl,rfl,by decide+kernel,rfl,by decide+kernel,by decide+kernel⟩
abbrev zb5:Stmt:=ym 33
theorem sc_law_counted:FnScope ["_law_plan","_law_load","_law_pieces","_law_shares_here","_law_j","_law_job","_law_k","_law_cell_here","_law_mine"] ["_law_plan","_law_load","_law_pieces","_law_shares_here"] (zT zb5):=⟨rfl,rfl,rfl,by decide+kernel,rfl,by decide+kernel,by decide+kernel⟩
abbrev zdt:Stmt:=ym 34
theorem sc_law_seated:FnScope ["_law_plan","_law_load","_law_seats","_law_side","_law_turn","_law_machine","_law_name","_law_breadths","_law_job"] ["_law_plan","_law_load"] (zT zdt):=⟨rfl,rfl,rfl,by decide+kernel,rfl,by decide+kernel,by decide+kernel⟩
abbrev ze4:Stmt:=zij (ym 20) 3
theorem sc_Calendar_at:FnScope ["self","turn","stop","many","machines"] ["self","turn"] (zT ze4):=⟨rfl,rfl,rfl,by decide+kernel,rfl,by decide+kernel,by decide+kernel⟩
abbrev zfp:Stmt:=ym 22
theorem sc_fault_word:FnScope ["row","job","calendar","ahead","turn","machine","name"] ["row","job","calendar","ahead"] (zT zfp):=⟨rfl,rfl,rfl,by decide+kernel,rfl,by decide+kernel,by decide+kernel⟩
abbrev zgk:Stmt:=ym 23
theorem sc_count_row:FnScope ["row","ahead","turn","machine","name","key"] ["row","ahead"] (zT zgk):=⟨rfl,rfl,rfl,by decide+kernel,rfl,by decide+kernel,by decide+kernel⟩
abbrev zl6:Stmt:=ym 24
theorem sc_faults:FnScope ["load","calendar","plan","jobs","job","ahead","told","index","row","word"] ["load","calendar","plan"] (zT zl6):=⟨rfl,rfl,rfl,by decide+kernel,rfl,by decide+kernel,by decide+kernel⟩
abbrev zc0:Stmt:=ym 25
theorem zgi:FnScope ["plan","name"] ["plan","name"] (zT zc0):=⟨rfl,rfl,rfl,by decide+kernel,rfl,by decide+kernel,by decide+kernel⟩
abbrev zin:Stmt:=ym 26
theorem zod:FnScope ["load","plan"] ["load","plan"] (zT zin):=⟨rfl,rfl,rfl,by decide+kernel,rfl,by decide+kernel,by decide+kernel⟩
abbrev zrv:Stmt:=ym 35
theorem sc_law:FnScope ["_law_script","_law_rows","_law_rest","_law_pieces","_law_names_here","_law_rooms","_law_load","_law_shares_here","_law_j","_law_name","_law_number","_law_begin","_law_end","_law_job","_law_plan","_law_left","_law_calendar","_law_some"] ["_law_script"] (zT zrv):=⟨rfl,rfl,rfl,by decide+kernel,rfl,by decide+kernel,by decide+kernel⟩
set_option genInjectivity false in
structure Txt (K:PySem.W.Frag) (mg:Str→Option Value) where
 f_law_cell:Addr
 fd_law_cell:FuncData
 d_law_cell:Dfn K mg "_law_cell" zhd ["_law_script","_law_k"] f_law_cell fd_law_cell
 f_law_days:Addr
 fd_law_days:FuncData
 d_law_days:Dfn K mg "_law_days" zhj ["_law_script","_law_many"] f_law_days fd_law_days
 f_law_cells:Addr
 fd_law_cells:FuncData
 d_law_cells:Dfn K mg "_law_cells" zge ["_law_rows","_law_rest"] f_law_cells fd_law_cells
 f_law_names:Addr
 fd_law_names:FuncData
 d_law_names:Dfn K mg "_law_names" zgu ["_law_cell_here","_law_many"] f_law_names fd_law_names
 f_laid_in_cell:Addr
 fd_laid_in_cell:FuncData
 d_laid_in_cell:Dfn K mg "laid_in_cell" zeg ["load","first","turns","own_shares"] f_laid_in_cell fd_laid_in_cell
 f_laid:Addr
 fd_laid:FuncData
 d_laid:Dfn K mg "laid" znr ["load","cells","shares"] f_laid fd_laid
 f_neighbours_as_one:Addr
 fd_neighbours_as_one:FuncData
 d_neighbours_as_one:Dfn K mg "neighbours_as_one" zch ["rows"] f_neighbours_as_one fd_neighbours_as_one
 f_kept_rows:Addr
 fd_kept_rows:FuncData
 d_kept_rows:Dfn K mg "kept_rows" zg0 ["rows","rest"] f_kept_rows fd_kept_rows
 f_is_whole:Addr
 fd_is_whole:FuncData
 d_is_whole:Dfn K mg "is_whole" zho ["thing"] f_is_whole fd_is_whole
 f_is_whole_between:Addr
 fd_is_whole_between:FuncData
 d_is_whole_between:Dfn K mg "is_whole_between" zcw ["thing","low","high"] f_is_whole_between fd_is_whole_between
 f_is_machines:Addr
 fd_is_machines:FuncData
 d_is_machines:Dfn K mg "is_machines" zez ["thing"] f_is_machines fd_is_machines
 f_is_calendar_row:Addr
 fd_is_calendar_row:FuncData
 d_is_calendar_row:Dfn K mg "is_calendar_row" zda ["thing"] f_is_calendar_row fd_is_calendar_row
 f_are_calendar_rows:Addr
 fd_are_calendar_rows:FuncData
 d_are_calendar_rows:Dfn K mg "are_calendar_rows" zbv ["thing"] f_are_calendar_rows fd_are_calendar_rows
 f_is_rest:Addr
 fd_is_rest:FuncData
 d_is_rest:Dfn K mg "is_rest" zjx ["thing"] f_is_rest fd_is_rest
 f_law_shares:Addr
 fd_law_shares:FuncData
 d_law_shares:Dfn K mg "_law_shares" zfq ["_law_script","_law_j","_law_job","_law_span","_law_pieces","_law_rooms"] f_law_shares fd_law_shares
 f_law_counted:Addr
 fd_law_counted:FuncData
 d_law_counted:Dfn K mg "_law_counted" zb5 ["_law_plan","_law_load","_law_pieces","_law_shares_here"] f_law_counted fd_law_counted
 f_law_seated:Addr
 fd_law_seated:FuncData
 d_law_seated:Dfn K mg "_law_seated" zdt ["_law_plan","_law_load"] f_law_seated fd_law_seated
 f_fault_word:Addr
 fd_fault_word:FuncData
 d_fault_word:Dfn K mg "fault_word" zfp ["row","job","calendar","ahead"] f_fault_word fd_fault_word
 f_count_row:Addr
 fd_count_row:FuncData
 d_count_row:Dfn K mg "count_row" zgk ["row","ahead"] f_count_row fd_count_row
 f_faults:Addr
 fd_faults:FuncData
 d_faults:Dfn K mg "faults" zl6 ["load","calendar","plan"] f_faults fd_faults
 f_turns_worked:Addr
 fd_turns_worked:FuncData
 d_turns_worked:Dfn K mg "turns_worked" zc0 ["plan","name"] f_turns_worked fd_turns_worked
 f_undone:Addr
 fd_undone:FuncData
 d_undone:Dfn K mg "undone" zin ["load","plan"] f_undone fd_undone
 f_law:Addr
 fd_law:FuncData
 d_law:Dfn K mg "law" zrv ["_law_script"] f_law fd_law
 C_Calendar:Addr
 cl_Calendar:Cls K C_Calendar
 g_Calendar:mg "Calendar" =some (.ref C_Calendar)
 f_Calendar_init:Addr
 fd_Calendar_init:FuncData
 d_Calendar_init:DfnM K "__init__" "Calendar.__init__" zdq ["self","rows","rest"] f_Calendar_init fd_Calendar_init
 f_Calendar_at:Addr
 fd_Calendar_at:FuncData
 d_Calendar_at:DfnM K "at" "Calendar.at" ze4 ["self","turn"] f_Calendar_at fd_Calendar_at
 m_Calendar_at:Meth K C_Calendar "at" f_Calendar_at
 M_Calendar:Mk K C_Calendar f_Calendar_init
 na_Calendar_stretches:NoAttr K C_Calendar "stretches"
 na_Calendar_beyond:NoAttr K C_Calendar "beyond"
 n_all:mg "all" =none
 n_bool:mg "bool" =none
 n_enumerate:mg "enumerate" =none
 n_int:mg "int" =none
 n_isinstance:mg "isinstance" =none
 n_len:mg "len" =none
 n_list:mg "list" =none
 n_max:mg "max" =none
 n_min:mg "min" =none
 n_range:mg "range" =none
 n_reversed:mg "reversed" =none
 n_sorted:mg "sorted" =none
 n_sum:mg "sum" =none
 n_tuple:mg "tuple" =none
 n_zip:mg "zip" =none
 t_MOST_ROWS:Tok
 c_MOST_ROWS:mg "MOST_ROWS" =some (.int 16 t_MOST_ROWS)
 t_MOST_TURNS_OF_ROW:Tok
 c_MOST_TURNS_OF_ROW:mg "MOST_TURNS_OF_ROW" =some (.int 1000000 t_MOST_TURNS_OF_ROW)
 t_MOST_MACHINES:Tok
 c_MOST_MACHINES:mg "MOST_MACHINES" =some (.int 16 t_MOST_MACHINES)
noncomputable def kx {K:PySem.W.Frag} {mg:Str→Option Value} (T:Txt K mg):Kx:=⟨K,fun c=>([(("Calendar" :Str),T.C_Calendar)]:List (Str×Addr)).lookup c⟩
section
variable {P:Program} {w:World} {K:PySem.W.Frag} {mg:Str→Option Value} {base:Heap}
theorem zbw (T:Txt K mg):FnOk P w K mg base (XT P w) 1 T.f_law_cell T.fd_law_cell ["_law_script","_law_k"] (zB (kx T) 2 f_law_cell):=yA T.d_law_cell.F sc_law_cell fun cdv A outer s H E hr=>by unfold zc8;exact (zp (yL (yF zl3 zq2 (yE _) (zb (pv 1)) (za (yr qE (qF rfl) (by rfl) T.n_len PySem.boot_len (zd (zb (pv 0)) zg)))) (zA (yn (zk zI (zJ rfl) (fun _ _=>rfl) (zb (pv 0)) (zb (pv 1))))) yQ) (zp (zO (i:=2) sc_law_cell.nd rfl (Or.inl rfl) (zu z4 z9 (za (zu zdc zdb (za zh) (zb (pv 1)))) (za zh))) (zp (yL (yF zld zqs (yE _) (za (yr qE (qF rfl) (by rfl) T.n_len PySem.boot_len (zd (zb (pv 0)) zg))) (za zh)) (zA (zO (i:=2) sc_law_cell.nd rfl (Or.inl rfl) (zu z4 z9 (zb (pv 2)) (za (zu zdc zdb (za (zu yP yN (za (zk zI (zJ rfl) (fun _ _=>rfl) (zb (pv 0)) (za (zu yP yN (za (zu zdc zdb (za zh) (zb (pv 1)))) (za (yr qE (qF rfl) (by rfl) T.n_len PySem.boot_len (zd (zb (pv 0)) zg))))))) (za zh))) (za (zu z4 z9 (zb (pv 1)) (za zh)))))))) yQ) (zA (yn (zu yP yN (za (zu zdc zdb (zb (pv 2)) (zb (pv 2)))) (za zh)))))))
theorem zm6 (T:Txt K mg):FnOk P w K mg base (XT P w) 2 T.f_law_days T.fd_law_days ["_law_script","_law_many"] (zB (kx T) 2 f_law_days):=yA T.d_law_days.F sc_law_days fun cdv A outer s H E hr=>by unfold zfi zdy;exact (zp (zO (i:=2) sc_law_days.nd rfl (Or.inl rfl) (qA zg)) (zp (yW PassesOwn.leaving rfl (zgp rfl T.n_range (zd (zb (pv 1)) zg)) (zM (zW (i:=3) sc_law_days.nd rfl (Or.inl rfl))) (zp (zO (i:=4) sc_law_days.nd rfl (Or.inl rfl) (yg zbh (zbw T) (hr.mono (by decide)) (by rfl) T.d_law_cell.g T.d_law_cell.F.kp T.d_law_cell.b yf (zd (zb (pv 0)) (zd (za (zu z4 z9 (za zh) (zb (pv 3)))) zg)))) (zp (zO (i:=5) sc_law_days.nd rfl (Or.inl rfl) (zu z4 z9 (za zh) (za (zu yP yN (zb (pv 4)) (za zh))))) (zp (yL (yF zeh (zed (qm hr)) (yE _) (za (zu yP yN (za (zu zc2 zc6 (zb (pv 4)) (za zh))) (za zh))) (za zh)) (zA (zO (i:=5) sc_law_days.nd rfl (Or.inl rfl) (zu z4 z9 (za zh) (za (zu yP yN (za (zu zc2 zc6 (zb (pv 4)) (za zh))) (za (zu zvn zyn (za zh) (za zh)))))))) yQ) (yh 5 (zA (qV zbm rfl PySem.F.slot_list_append PySem.F.type_list_append qW (zb (pv 2)) (zd (za (qe (zd (zb (pv 5)) (zd (za (zu yP yN (za (zu zc2 zc6 (zb (pv 4)) (za zh))) (za zh))) zg)))) zg)))))))) (zA (zdg (pv 2)))))
theorem zk0 (T:Txt K mg):FnOk P w K mg base (XT P w) 1 T.f_law_cells T.fd_law_cells ["_law_rows","_law_rest"] (zB (kx T) 2 f_law_cells):=yA T.d_law_cells.F sc_law_cells fun cdv A outer s H E hr=>by unfold zep zdl;exact (zp (zO (i:=2) sc_law_cells.nd rfl (Or.inl rfl) (qA zg)) (zp (zO (i:=3) sc_law_cells.nd rfl (Or.inl rfl) zh) (zp (yW PassesOwn.leaving rfl (qk rfl (zb (pv 0))) (qw (n:=2) (qH rfl (z0 (zM (zW (i:=4) sc_law_cells.nd rfl (Or.inl rfl))) (z0 (zM (zW (i:=5) sc_law_cells.nd rfl (Or.inl rfl))) qr zZ) zZ)) (z5 (z5 qv))) (yh 3 (zp (qV zbm rfl PySem.F.slot_list_append PySem.F.type_list_append qW (zb (pv 2)) (zd (za (qe (zd (zb (pv 3)) (zd (za (zu zde ze1 (za (zu z4 z9 (zb (pv 3)) (zb (pv 4)))) (za zh))) (zd (zb (pv 5)) zg))))) zg)) (zA (zO (i:=3) sc_law_cells.nd rfl (Or.inl rfl) (zu z4 z9 (zb (pv 3)) (zb (pv 4)))))))) (yh 3 (zp (qV zbm rfl PySem.F.slot_list_append PySem.F.type_list_append qW (zb (pv 2)) (zd (za (qe (zd (zb (pv 3)) (zd (za (zu z4 z9 (zb (pv 3)) (za zh))) (zd (zb (pv 1)) zg))))) zg)) (zA (zdg (pv 2))))))))
theorem zk5 (T:Txt K mg):FnOk P w K mg base (XT P w) 1 T.f_law_names T.fd_law_names ["_law_cell_here","_law_many"] (zB (kx T) 2 f_law_names):=yA T.d_law_names.F sc_law_names fun cdv A outer s H E hr=>by unfold zen zdf zcg;exact (zp (zO (i:=2) sc_law_names.nd rfl (Or.inl rfl) ziv) (zp (zO (i:=3) sc_law_names.nd rfl (Or.inl rfl) (zu z4 z9 (za zh) (za (zu yP yN (zb (pv 0)) (za zh))))) (zp (zO (i:=4) sc_law_names.nd rfl (Or.inl rfl) (zu yP yN (za (zu zc2 zc6 (zb (pv 0)) (za zh))) (zb (pv 3)))) (zp (zO (i:=5) sc_law_names.nd rfl (Or.inl rfl) (qA zg)) (zp (yW PassesOwn.leaving rfl (zgp rfl T.n_range (zd (zb (pv 1)) zg)) (zM (zW (i:=6) sc_law_names.nd rfl (Or.inl rfl))) (zp (zO (i:=7) sc_law_names.nd rfl (Or.inl rfl) ziv) (yh 3 (zp (yW PassesOwn.leaving rfl (zgp rfl T.n_range (zd (zb (pv 3)) zg)) (zM (zW (i:=8) sc_law_names.nd rfl (Or.inl rfl))) (zp (zO (i:=9) sc_law_names.nd rfl (Or.inl rfl) (zu z4 z9 (za (zu zc2 zc6 (zb (pv 0)) (za (zu z4 z9 (za zh) (za (zu zdc zdb (za zh) (zb (pv 8)))))))) (za (zu zdc zdb (zb (pv 6)) (za (r_ty ztt zo3 (by rfl) T.n_int PyProof.Rows.boot_int (zd (za (ztv zeh (zed (qm hr)) (yE _) (zb (pv 8)) (zb (pv 4)))) zg))))))) (zA (yL (yF zeh (zed (qm hr)) (yE _) (zb (pv 8)) (za zh)) (zA (zO (i:=7) sc_law_names.nd rfl (Or.inl rfl) (zu z4 z9 (zb (pv 7)) (za (zk zI (zJ rfl) (fun _ _=>rfl) (zb (pv 2)) (za (zu yP yN (zb (pv 9)) (za zh)))))))) (zA (zO (i:=7) sc_law_names.nd rfl (Or.inl rfl) (zu z4 z9 (zb (pv 7)) (za (zk zI (zJ rfl) (fun _ _=>rfl) (za (zu z4 z9 (zb (pv 2)) (za ziv))) (za (zu yP yN (zb (pv 9)) (za zh)))))))))))) (yh 7 (zA (qV zbm rfl PySem.F.slot_list_append PySem.F.type_list_append qW (zb (pv 5)) (zd (zb (pv 7)) zg)))))))) (zA (zdg (pv 5))))))))
theorem zg6 (T:Txt K mg):FnOk P w K mg base (XT P w) 1 T.f_laid_in_cell T.fd_laid_in_cell ["load","first","turns","own_shares"] (zB (kx T) 4 f_laid_in_cell):=yA T.d_laid_in_cell.F sc_laid_in_cell fun cdv A outer s H E hr=>by unfold zcz zce za3;exact (zp (zO (i:=4) sc_laid_in_cell.nd rfl (Or.inl rfl) (qA zg)) (zp (yW PassesOwn.leaving rfl (zsz rfl rfl T.n_zip (zd (zb (pv 0)) (zd (zb (pv 3)) zg))) (qw (n:=2) (qH rfl (z0 (zM (zW (i:=5) sc_laid_in_cell.nd rfl (Or.inl rfl))) (z0 (zM (zW (i:=6) sc_laid_in_cell.nd rfl (Or.inl rfl))) qr zZ) zZ)) (z5 (z5 qv))) (zp (zO (i:=7) sc_laid_in_cell.nd rfl (Or.inl rfl) (yr qE (qF rfl) (by rfl) T.n_len PySem.boot_len (zd (zb (pv 4)) zg))) (zA (yW PassesOwn.leaving rfl (zox rfl T.n_range (zd (zb (pv 7)) (zd (za (zu z4 z9 (zb (pv 7)) (zb (pv 6)))) zg))) (zM (zW (i:=8) sc_laid_in_cell.nd rfl (Or.inl rfl))) (zA (qV zbm rfl PySem.F.slot_list_append PySem.F.type_list_append qW (zb (pv 4)) (zd (za (qe (zd (za (zu z4 z9 (zb (pv 1)) (za (zu yP yN (zb (pv 8)) (zb (pv 2)))))) (zd (za (zu zc2 zc6 (zb (pv 8)) (zb (pv 2)))) (zd (za (zk zI (zJ rfl) (fun _ _=>rfl) (zb (pv 5)) (za zh))) zg))))) zg))))))) (zA (zdg (pv 4)))))
theorem zwv (T:Txt K mg):FnOk P w K mg base (XT P w) 2 T.f_laid T.fd_laid ["load","cells","shares"] (zB (kx T) 3 f_laid):=yA T.d_laid.F sc_laid fun cdv A outer s H E hr=>by unfold zqg zim zfz;exact (zp (zO (i:=3) sc_laid.nd rfl (Or.inl rfl) (qA zg)) (zp (yW PassesOwn.leaving rfl (zfh rfl rfl T.n_enumerate (zd (zb (pv 1)) zg)) (qw (n:=2) (qH rfl (z0 (zM (zW (i:=4) sc_laid.nd rfl (Or.inr rfl))) (z0 (zM (zW (i:=5) sc_laid.nd rfl (Or.inl rfl))) qr zZ) zZ)) (z5 (z5 qv))) (zp (zfb (i:=6) sc_laid.nd rfl (by rfl) (loc:=["of_job"]) (free:=["place"]) (fr:=[4]) rfl (zay (sc:=zT znr) (N:=(["load","cells","shares","plan","place","cell","own_shares"]:List Str)) rfl rfl (by decide+kernel)) (qk rfl (zb (pv 2))) (fun _ _ _ _ _=>(zM (qL 0 (["of_job","place"]:List Str) (by decide+kernel) rfl rfl (Or.inl rfl) rfl))) (fun _ _ _ _ _=>ze8) (fun _ _ _ _ _=>(zk zI (zJ rfl) (fun _ _=>rfl) (zb (pv 0)) (zb (pv 1))))) (yh 6 (zA (qV zp2 rfl PySem.F.slot_list_extend PySem.F.type_list_extend zow (zb (pv 3)) (zd (za (yg zf8 (zg6 T) (hr.mono (by decide)) (by rfl) T.d_laid_in_cell.g T.d_laid_in_cell.F.kp T.d_laid_in_cell.b yf (zd (zb (pv 0)) (zd (za (zk zI (zJ rfl) (fun _ _=>rfl) (zb (pv 5)) (za zh))) (zd (za (zu z4 z9 (za (zu zde ze1 (za (zk zI (zJ rfl) (fun _ _=>rfl) (zb (pv 5)) (za zh))) (za (zk zI (zJ rfl) (fun _ _=>rfl) (zb (pv 5)) (za zh))))) (za zh))) (zd (zb (pv 6)) zg)))))) zg)))))) (zA (yn (yr zln (zhb rfl) (by rfl) T.n_sorted PyProof.Rows.boot_sorted (zd (zb (pv 3)) zg))))))
theorem zem (T:Txt K mg):FnOk P w K mg base (XT P w) 1 T.f_neighbours_as_one T.fd_neighbours_as_one ["rows"] (zB (kx T) 1 f_neighbours_as_one):=yA T.d_neighbours_as_one.F sc_neighbours_as_one fun cdv A outer s H E hr=>by unfold zbt zbd;exact (zp (zO (i:=1) sc_neighbours_as_one.nd rfl (Or.inl rfl) (qA zg)) (zp (yW PassesOwn.leaving rfl (qk rfl (zb (pv 0))) (qw (n:=2) (qH rfl (z0 (zM (zW (i:=2) sc_neighbours_as_one.nd rfl (Or.inl rfl))) (z0 (zM (zW (i:=3) sc_neighbours_as_one.nd rfl (Or.inl rfl))) qr zZ) zZ)) (z5 (z5 qv))) (zA (yL (PW.pt (zn8 (zsj rfl (zb (pv 1))) (zk3 (yF zeh (zed (qm hr)) (yE _) (za (zk zI (zJ rfl) (fun _ _=>rfl) (za (zk zI (zJ rfl) (fun _ _=>rfl) (zb (pv 1)) (za (zqi (za zh))))) (za zh))) (zb (pv 3)))))) (zA (zl0 (qe (zd (za (zu z4 z9 (za (zk zI (zJ rfl) (fun _ _=>rfl) (za (zk zI (zJ rfl) (fun _ _=>rfl) (zb (pv 1)) (za (zqi (za zh))))) (za zh))) (zb (pv 2)))) (zd (zb (pv 3)) zg))) (zb (pv 1)) (za (zqi (za zh))) fun a b c=>zlx a (zs4 b c zl1))) (zA (qV zbm rfl PySem.F.slot_list_append PySem.F.type_list_append qW (zb (pv 1)) (zd (za (qe (zd (zb (pv 2)) (zd (zb (pv 3)) zg)))) zg)))))) (zA (zdg (pv 1)))))
theorem zkh (T:Txt K mg):FnOk P w K mg base (XT P w) 2 T.f_kept_rows T.fd_kept_rows ["rows","rest"] (zB (kx T) 2 f_kept_rows):=yA T.d_kept_rows.F sc_kept_rows fun cdv A outer s H E hr=>by unfold zcn;exact (zp (zO (i:=2) sc_kept_rows.nd rfl (Or.inl rfl) (yg zec (zem T) (hr.mono (by decide)) (by rfl) T.d_neighbours_as_one.g T.d_neighbours_as_one.F.kp T.d_neighbours_as_one.b yf (zd (zb (pv 0)) zg))) (zp (yL (PW.pt (zn8 (zsj rfl (zb (pv 2))) (zk3 (yF zeh (zed (qm hr)) (yE _) (za (zk zI (zJ rfl) (fun _ _=>rfl) (za (zk zI (zJ rfl) (fun _ _=>rfl) (zb (pv 2)) (za (zqi (za zh))))) (za zh))) (zb (pv 1)))))) (zA (zwn zwo rfl PySem.F.slot_list_pop PySem.F.type_list_pop zyl (zb (pv 2)))) yQ) (zA (zdg (pv 2)))))
theorem znb (T:Txt K mg):FnOk P w K mg base (XT P w) 1 T.f_is_whole T.fd_is_whole ["thing"] (zB (kx T) 1 f_is_whole):=yA T.d_is_whole.F zla fun cdv A outer s H E hr=>by unfold zfj;exact (zA (yn (zuy (yr zh4 (zf1 rfl) (by rfl) T.n_isinstance PyProof.Rows.boot_isinstance (zd (zb (pv 0)) (zd (za (qO (zh2 (v:= .ty "int") (by rfl) T.n_int PyProof.Rows.boot_int rfl) fun _ _ _=> .ty _)) zg))) (ztn (z0f (yr zh4 (zf1 rfl) (by rfl) T.n_isinstance PyProof.Rows.boot_isinstance (zd (zb (pv 0)) (zd (za (qO (zh2 (v:= .ty "bool") (by rfl) T.n_bool PyProof.Rows.boot_bool rfl) fun _ _ _=> .ty _)) zg))))))))
theorem zb9 (T:Txt K mg):FnOk P w K mg base (XT P w) 2 T.f_is_whole_between T.fd_is_whole_between ["thing","low","high"] (zB (kx T) 3 f_is_whole_between):=yA T.d_is_whole_between.F zek fun cdv A outer s H E hr=>by unfold zb6;exact (zA (yn (zuy (yg zka (znb T) (hr.mono (by decide)) (by rfl) T.d_is_whole.g T.d_is_whole.F.kp T.d_is_whole.b yf (zd (zb (pv 0)) zg)) (ztn (zv0 zei zei zg4 zg4 (zb (pv 1)) (zb (pv 0)) (zb (pv 2)))))))
theorem zh6 (T:Txt K mg):FnOk P w K mg base (XT P w) 3 T.f_is_machines T.fd_is_machines ["thing"] (zB (kx T) 1 f_is_machines):=yA T.d_is_machines.F zg9 fun cdv A outer s H E hr=>by unfold zdk;exact (zA (yn (yg zbq (zb9 T) (hr.mono (by decide)) (by rfl) T.d_is_whole_between.g T.d_is_whole_between.F.kp T.d_is_whole_between.b yf (zd (zb (pv 0)) (zd (za zh) (zd (za (qO (zh1 (v:= .int 16) (by rfl) T.c_MOST_MACHINES ⟨_,rfl⟩) fun _ _ _=> .int _)) zg))))))
theorem zfm (T:Txt K mg):FnOk P w K mg base (XT P w) 4 T.f_is_calendar_row T.fd_is_calendar_row ["thing"] (zB (kx T) 1 f_is_calendar_row):=yA T.d_is_calendar_row.F ze2 fun cdv A outer s H E hr=>by unfold zcc;exact (zp (yL (PW.pt (zkw (ze0 (zha (yr zh4 (zf1 rfl) (by rfl) T.n_isinstance PyProof.Rows.boot_isinstance (zd (zb (pv 0)) (zd (za (qO (zh2 (v:= .ty "tuple") (by rfl) T.n_tuple PyProof.Rows.boot_tuple rfl) fun _ _ _=> .ty _)) zg))))) (zhf (yF zj5 (zi4 (qm hr)) (yE _) (za (yr qE (qF rfl) (by rfl) T.n_len PySem.boot_len (zd (zb (pv 0)) zg))) (za zh))))) (zA (yn r_bl)) yQ) (zA (yn (zuy (yg zbq (zb9 T) (hr.mono (by decide)) (by rfl) T.d_is_whole_between.g T.d_is_whole_between.F.kp T.d_is_whole_between.b yf (zd (za (zk zI (zJ rfl) (fun _ _=>rfl) (zb (pv 0)) (za zh))) (zd (za zh) (zd (za (qO (zh1 (v:= .int 1000000) (by rfl) T.c_MOST_TURNS_OF_ROW ⟨_,rfl⟩) fun _ _ _=> .int _)) zg)))) (ztn (yg zg3 (zh6 T) (hr.mono (by decide)) (by rfl) T.d_is_machines.g T.d_is_machines.F.kp T.d_is_machines.b yf (zd (za (zk zI (zJ rfl) (fun _ _=>rfl) (zb (pv 0)) (za zh))) zg)))))))
theorem zel (T:Txt K mg):FnOk P w K mg base (XT P w) 5 T.f_are_calendar_rows T.fd_are_calendar_rows ["thing"] (zB (kx T) 1 f_are_calendar_rows):=yA T.d_are_calendar_rows.F zea fun cdv A outer s H E hr=>by unfold zbp za5;exact (zp (yL (PW.pt (zkw (ze0 (zha (yr zh4 (zf1 rfl) (by rfl) T.n_isinstance PyProof.Rows.boot_isinstance (zd (zb (pv 0)) (zd (za (qO (zh2 (v:= .ty "list") (by rfl) T.n_list PyProof.Rows.boot_list rfl) fun _ _ _=> .ty _)) zg))))) (zhf (yF zld zqs (yE _) (za (yr qE (qF rfl) (by rfl) T.n_len PySem.boot_len (zd (zb (pv 0)) zg))) (za (qO (zh1 (v:= .int 16) (by rfl) T.c_MOST_ROWS ⟨_,rfl⟩) fun _ _ _=> .int _)))))) (zA (yn r_bl)) yQ) (zA (yn (yr ztp (zoz rfl rfl) (by rfl) T.n_all PyProof.Rows.boot_all (zd (za (zhc (loc:=["row"]) (free:=[]) (fr:=[]) rfl (zay (sc:=zT zbv) (N:=(["thing"]:List Str)) rfl rfl (by decide+kernel)) (qk rfl (zb (pv 0))) (fun _ _ _ _ _=>(zM (qL 0 (["row"]:List Str) (by decide+kernel) rfl rfl (Or.inl rfl) rfl))) (fun _ _ _ _ _=>ze8) (fun _ _ _ _ _=>(yg zev (zfm T) (hr.mono (by decide)) (by rfl) T.d_is_calendar_row.g T.d_is_calendar_row.F.kp T.d_is_calendar_row.b zyy (zd (zb (pv 0)) zg))))) zg)))))
theorem zo5 (T:Txt K mg):FnOk P w K mg base (XT P w) 3 T.f_is_rest T.fd_is_rest ["thing"] (zB (kx T) 1 f_is_rest):=yA T.d_is_rest.F zm7 fun cdv A outer s H E hr=>by unfold zga;exact (zA (yn (yg zbq (zb9 T) (hr.mono (by decide)) (by rfl) T.d_is_whole_between.g T.d_is_whole_between.F.kp T.d_is_whole_between.b yf (zd (zb (pv 0)) (zd (za zh) (zd (za (qO (zh1 (v:= .int 16) (by rfl) T.c_MOST_MACHINES ⟨_,rfl⟩) fun _ _ _=> .int _)) zg))))))
theorem zgy (T:Txt K mg):FnOk P w K mg base (XT P w) 6 T.f_Calendar_init T.fd_Calendar_init ["self","rows","rest"] (zB (kx T) 3 f_Calendar_init):=yA T.d_Calendar_init.F zfs fun cdv A outer s H E hr=>by unfold zcu;exact (zp (yL (PW.pt (zkw (ze0 (zha (yg zeb (zel T) (hr.mono (by decide)) (by rfl) T.d_are_calendar_rows.g T.d_are_calendar_rows.F.kp T.d_are_calendar_rows.b yf (zd (zb (pv 1)) zg)))) (zhf (ze0 (zha (yg znd (zo5 T) (hr.mono (by decide)) (by rfl) T.d_is_rest.g T.d_is_rest.F.kp T.d_is_rest.b yf (zd (zb (pv 2)) zg))))))) (zA zqy) yQ) (zp (zs1 (Flds.cons rfl T.cl_Calendar T.na_Calendar_stretches Flds.nil) (zb (pv 0)) (yg zjb (zkh T) (hr.mono (by decide)) (by rfl) T.d_kept_rows.g T.d_kept_rows.F.kp T.d_kept_rows.b yf (zd (zb (pv 1)) (zd (zb (pv 2)) zg)))) (zA (zs1 (Flds.cons rfl T.cl_Calendar T.na_Calendar_beyond Flds.nil) (zb (pv 0)) (r_v (pv 2))))))
theorem zjz (T:Txt K mg):FnOk P w K mg base (XT P w) 2 T.f_law_shares T.fd_law_shares ["_law_script","_law_j","_law_job","_law_span","_law_pieces","_law_rooms"] (zB (kx T) 6 f_law_shares):=yA T.d_law_shares.F sc_law_shares fun cdv A outer s H E hr=>by unfold zdw zc5;exact (zp (zO (i:=6) sc_law_shares.nd rfl (Or.inl rfl) (qA zg)) (zp (yW PassesOwn.leaving rfl (zfh rfl rfl T.n_enumerate (zd (zb (pv 4)) zg)) (qw (n:=2) (qH rfl (z0 (zM (zW (i:=7) sc_law_shares.nd rfl (Or.inl rfl))) (z0 (zM (zW (i:=8) sc_law_shares.nd rfl (Or.inl rfl))) qr zZ) zZ)) (z5 (z5 qv))) (zp (zO (i:=9) sc_law_shares.nd rfl (Or.inl rfl) zh) (zp (yL (ze5 zei zei zg4 zg4 (za (zk zI (zJ rfl) (fun _ _=>rfl) (zb (pv 3)) (za zh))) (zb (pv 7)) (za (zk zI (zJ rfl) (fun _ _=>rfl) (zb (pv 3)) (za zh)))) (zp (zO (i:=10) sc_law_shares.nd rfl (Or.inl rfl) (yr zrs (zov rfl) (by rfl) T.n_min PyProof.Rows.boot_min (zd (za (zu zdc zdb (za (zk zI (zJ rfl) (fun _ _=>rfl) (zb (pv 2)) (za zh))) (za (zu z4 z9 (za (zu zde ze1 (za (zk zI (zJ rfl) (fun _ _=>rfl) (zb (pv 8)) (za zh))) (za (zk zI (zJ rfl) (fun _ _=>rfl) (zb (pv 8)) (za zh))))) (za zh))))) (zd (za (zk zI (zJ rfl) (fun _ _=>rfl) (zb (pv 5)) (zb (pv 7)))) (zd (za (zu zde ze1 (za (zk zI (zJ rfl) (fun _ _=>rfl) (zb (pv 2)) (za zh))) (za (yr zhx (zew rfl rfl) (by rfl) T.n_sum PyProof.Rows.boot_sum (zd (zb (pv 6)) zg))))) zg))))) (zp (zO (i:=11) sc_law_shares.nd rfl (Or.inl rfl) (yg zbh (zbw T) (hr.mono (by decide)) (by rfl) T.d_law_cell.g T.d_law_cell.F.kp T.d_law_cell.b yf (zd (zb (pv 0)) (zd (za (zu yP yN (za (zu z4 z9 (za (zu z4 z9 (za zh) (za (zu zdc zdb (zb (pv 1)) (za (yr qE (qF rfl) (by rfl) T.n_len PySem.boot_len (zd (zb (pv 4)) zg))))))) (zb (pv 7)))) (za (yr zqb (zje rfl) (by rfl) T.n_max PyProof.Rows.boot_max (zd (za zh) (zd (za (yr qE (qF rfl) (by rfl) T.n_len PySem.boot_len (zd (zb (pv 0)) zg))) zg)))))) zg)))) (zp (zO (i:=9) sc_law_shares.nd rfl (Or.inl rfl) (zu yP yN (za (zu zc2 zc6 (zb (pv 11)) (za zh))) (za (zu z4 z9 (zb (pv 10)) (za zh))))) (zA (yL (yF zeh (zed (qm hr)) (yE _) (za (zu yP yN (zb (pv 11)) (za zh))) (za zh)) (zA (zO (i:=9) sc_law_shares.nd rfl (Or.inl rfl) (r_v (pv 10)))) yQ))))) yQ) (zp (zl0 (zu zde ze1 (za (zk zI (zJ rfl) (fun _ _=>rfl) (zb (pv 5)) (zb (pv 7)))) (zb (pv 9))) (zb (pv 5)) (zb (pv 7)) fun a b c=>zlx a (zs4 b c zl1)) (zA (qV zbm rfl PySem.F.slot_list_append PySem.F.type_list_append qW (zb (pv 6)) (zd (zb (pv 9)) zg))))))) (zA (zdg (pv 6)))))
theorem zio (T:Txt K mg):FnOk P w K mg base (XT P w) 1 T.f_law_counted T.fd_law_counted ["_law_plan","_law_load","_law_pieces","_law_shares_here"] (zB (kx T) 4 f_law_counted):=yA T.d_law_counted.F sc_law_counted fun cdv A outer s H E hr=>by unfold zdh zb4 zcq zb7 zbe zbf;exact (zp (yW PassesOwn.leaving rfl (zfh rfl rfl T.n_enumerate (zd (zb (pv 1)) zg)) (qw (n:=2) (qH rfl (z0 (zM (zW (i:=4) sc_law_counted.nd rfl (Or.inl rfl))) (z0 (zM (zW (i:=5) sc_law_counted.nd rfl (Or.inr rfl))) qr zZ) zZ)) (z5 (z5 qv))) (zA (yW PassesOwn.leaving rfl (zfh rfl rfl T.n_enumerate (zd (zb (pv 2)) zg)) (qw (n:=2) (qH rfl (z0 (zM (zW (i:=6) sc_law_counted.nd rfl (Or.inl rfl))) (z0 (zM (zW (i:=7) sc_law_counted.nd rfl (Or.inr rfl))) qr zZ) zZ)) (z5 (z5 qv))) (zp (zfb (i:=8) sc_law_counted.nd rfl (by rfl) (loc:=["_law_row"]) (free:=["_law_job","_law_cell_here"]) (fr:=[5,7]) rfl (zay (sc:=zT zb5) (N:=(["_law_plan","_law_load","_law_pieces","_law_shares_here","_law_j","_law_job","_law_k","_law_cell_here","_law_mine"]:List Str)) rfl rfl (by decide+kernel)) (qk rfl (zb (pv 0))) (fun _ _ _ _ _=>(zM (qL 0 (["_law_row","_law_job","_law_cell_here"]:List Str) (by decide+kernel) rfl rfl (Or.inl rfl) rfl))) (fun _ _ _ _ _=>(zis (PW.pt (zn8 (yF zeh (zed (qm hr)) (yE _) (za (zk zI (zJ rfl) (fun _ _=>rfl) (zb (pv 0)) (za zh))) (za (zk zI (zJ rfl) (fun _ _=>rfl) (zb (pv 1)) (za zh)))) (zk3 (ze5 zei zei zg4 zg4 (za (zk zI (zJ rfl) (fun _ _=>rfl) (zb (pv 2)) (za zh))) (za (zk zI (zJ rfl) (fun _ _=>rfl) (zb (pv 0)) (za zh))) (za (zk zI (zJ rfl) (fun _ _=>rfl) (zb (pv 2)) (za zh))))))))) (fun _ _ _ _ _=>(r_v (pv 0)))) (yh 8 (zA (yL (PW.pt (zkw (yF zj5 (zi4 (qm hr)) (yE _) (za (yr qE (qF rfl) (by rfl) T.n_len PySem.boot_len (zd (zb (pv 8)) zg))) (za (zk zI (zJ rfl) (fun _ _=>rfl) (za (zk zI (zJ rfl) (fun _ _=>rfl) (zb (pv 3)) (zb (pv 4)))) (zb (pv 6))))) (zhf (yF zld zqs (yE _) (za (yr qE (qF rfl) (by rfl) T.n_len PySem.boot_len (zd (za (zhc (loc:=["_law_row"]) (free:=["_law_cell_here"]) (fr:=[7]) rfl (zay (sc:=zT zb5) (N:=(["_law_plan","_law_load","_law_pieces","_law_shares_here","_law_j","_law_job","_law_k","_law_cell_here","_law_mine"]:List Str)) rfl rfl (by decide+kernel)) (qk rfl (zb (pv 8))) (fun _ _ _ _ _=>(zM (qL 0 (["_law_row","_law_cell_here"]:List Str) (by decide+kernel) rfl rfl (Or.inl rfl) rfl))) (fun _ _ _ _ _=>(zis (ze0 (ze5 zei zl3 zg4 zq2 (za zh) (za (zk zI (zJ rfl) (fun _ _=>rfl) (zb (pv 0)) (za zh))) (za (zk zI (zJ rfl) (fun _ _=>rfl) (zb (pv 1)) (za zh))))))) (fun _ _ _ _ _=>(r_v (pv 0))))) zg))) (za zh))))) (zA (yn r_bl)) yQ))))))) (zA (yn (ztv zeh (zed (qm hr)) (yE _) (za (yr qE (qF rfl) (by rfl) T.n_len PySem.boot_len (zd (zb (pv 0)) zg))) (za (yr zhx (zew rfl rfl) (by rfl) T.n_sum PyProof.Rows.boot_sum (zd (za (zhc (loc:=["_law_some"]) (free:=[]) (fr:=[]) rfl (zay (sc:=zT zb5) (N:=(["_law_plan","_law_load","_law_pieces","_law_shares_here","_law_j","_law_job","_law_k","_law_cell_here","_law_mine"]:List Str)) rfl rfl (by decide+kernel)) (qk rfl (zb (pv 3))) (fun _ _ _ _ _=>(zM (qL 0 (["_law_some"]:List Str) (by decide+kernel) rfl rfl (Or.inl rfl) rfl))) (fun _ _ _ _ _=>ze8) (fun _ _ _ _ _=>(yr zhx (zew rfl rfl) (by rfl) T.n_sum PyProof.Rows.boot_sum (zd (zb (pv 0)) zg))))) zg)))))))
theorem zjd (T:Txt K mg):FnOk P w K mg base (XT P w) 1 T.f_law_seated T.fd_law_seated ["_law_plan","_law_load"] (zB (kx T) 2 f_law_seated):=yA T.d_law_seated.F sc_law_seated fun cdv A outer s H E hr=>by unfold zdu zcd zc4 zc1;exact (zp (zO (i:=2) sc_law_seated.nd rfl (Or.inl rfl) zo4) (zp (zO (i:=3) sc_law_seated.nd rfl (Or.inr rfl) zo4) (zp (yW PassesOwn.leaving rfl (qk rfl (zb (pv 0))) (qw (n:=3) (qH rfl (z0 (zM (zW (i:=4) sc_law_seated.nd rfl (Or.inl rfl))) (z0 (zM (zW (i:=5) sc_law_seated.nd rfl (Or.inl rfl))) (z0 (zM (zW (i:=6) sc_law_seated.nd rfl (Or.inl rfl))) qr zZ) zZ) zZ)) (z5 (z5 (z5 qv)))) (zp (yL (yF zom (zs7 (qB hr)) (by with_unfolding_all rfl) (za (qe (zd (zb (pv 4)) (zd (zb (pv 5)) zg)))) (zb (pv 2))) (zA (yn r_bl)) yQ) (zp (zgs (qB hr) r_bl (zb (pv 2)) (za (qe (zd (zb (pv 4)) (zd (zb (pv 5)) zg))))) (zA (zgs (qB hr) (zu z4 z9 (za (ziy (qB hr) (zb (pv 3)) (za (qe (zd (zb (pv 4)) (zd (zb (pv 6)) zg)))) (za zh) ⟨rfl,rfl,rfl,rfl⟩)) (za zh)) (zb (pv 3)) (za (qe (zd (zb (pv 4)) (zd (zb (pv 6)) zg))))))))) (zp (zO (i:=7) sc_law_seated.nd rfl (Or.inr rfl) zo4) (zp (yW PassesOwn.leaving rfl (qk rfl (zb (pv 1))) (zM (zW (i:=8) sc_law_seated.nd rfl (Or.inl rfl))) (zA (zgs (qB hr) (zk zI (zJ rfl) (fun _ _=>rfl) (zb (pv 8)) (za zh)) (zb (pv 7)) (za (zk zI (zJ rfl) (fun _ _=>rfl) (zb (pv 8)) (za zh)))))) (yh 7 (yh 3 (zA (yn (ztv zeh (zed (qm hr)) (yE _) (za (zhc (loc:=["_law_pair"]) (free:=["_law_side","_law_breadths"]) (fr:=[3,7]) rfl (zay (sc:=zT zdt) (N:=(["_law_plan","_law_load","_law_seats","_law_side","_law_turn","_law_machine","_law_name","_law_breadths","_law_job"]:List Str)) rfl rfl (by decide+kernel)) (zvv (zb (pv 3))) (fun _ _ _ _ _=>(zM (qL 0 (["_law_pair","_law_side","_law_breadths"]:List Str) (by decide+kernel) rfl rfl (Or.inl rfl) rfl))) (fun _ _ _ _ _=>(zis (yF zld zqs (yE _) (za (zsh (qB hr) (fun _ _=>rfl) (zb (pv 1)) (zb (pv 0)))) (za (zsh (qB hr) (fun _ _=>rfl) (zb (pv 2)) (za (zk zI (zJ rfl) (fun _ _=>rfl) (zb (pv 0)) (za zh)))))))) (fun _ _ _ _ _=>(r_v (pv 0))))) (za (qA zg))))))))))))
theorem zif (T:Txt K mg):FnOk P w K mg base (XT P w) 1 T.f_Calendar_at T.fd_Calendar_at ["self","turn"] (zB (kx T) 2 f_Calendar_at):=yA T.d_Calendar_at.F sc_Calendar_at fun cdv A outer s H E hr=>by unfold zdi zcm;exact (zp (zO (i:=2) sc_Calendar_at.nd rfl (Or.inl rfl) zh) (zp (yW PassesOwn.leaving rfl (qk rfl (za (zww (Flds.cons rfl T.cl_Calendar T.na_Calendar_stretches Flds.nil) (zb (pv 0))))) (qw (n:=2) (qH rfl (z0 (zM (zW (i:=3) sc_Calendar_at.nd rfl (Or.inl rfl))) (z0 (zM (zW (i:=4) sc_Calendar_at.nd rfl (Or.inl rfl))) qr zZ) zZ)) (z5 (z5 qv))) (zp (zxn (i:=2) znu (fun h=>zym sc_Calendar_at.nd rfl (Or.inl rfl) h zwt) (zb (pv 3))) (zA (yL (yF zl3 zq2 (yE _) (zb (pv 1)) (zb (pv 2))) (zA (zdg (pv 4))) yQ)))) (zA (yn (zww (Flds.cons rfl T.cl_Calendar T.na_Calendar_beyond Flds.nil) (zb (pv 0)))))))
theorem zjy (T:Txt K mg):FnOk P w K mg base (XT P w) 2 T.f_fault_word T.fd_fault_word ["row","job","calendar","ahead"] (zB (kx T) 4 f_fault_word):=yA T.d_fault_word.F sc_fault_word fun cdv A outer s H E hr=>by unfold ja;exact (zp (zs3 (r_v (pv 0)) (qw (n:=3) (qH rfl (z0 (zM (zW (i:=4) sc_fault_word.nd rfl (Or.inl rfl))) (z0 (zM (zW (i:=5) sc_fault_word.nd rfl (Or.inl rfl))) (z0 (zM (zW (i:=6) sc_fault_word.nd rfl (Or.inl rfl))) qr zZ) zZ) zZ)) (z5 (z5 (z5 qv)))) zlx) (zp (yL (yF zta zv6 (yE _) (zb (pv 1)) (za zu4)) (zA (yn ziv)) yQ) (zp (yL (ze0 (ze5 zei zei zg4 zg4 (za (zk zI (zJ rfl) (fun _ _=>rfl) (zb (pv 1)) (za zh))) (zb (pv 4)) (za (zk zI (zJ rfl) (fun _ _=>rfl) (zb (pv 1)) (za zh))))) (zA (yn ziv)) yQ) (zp (yL (ze0 (ze5 zei zl3 zg4 zq2 (za zh) (zb (pv 5)) (za (zw5 rfl zg5 (zb (pv 2)) T.cl_Calendar T.m_Calendar_at (zif T) (hr.mono (by decide)) T.d_Calendar_at.b yf (zd (zb (pv 4)) zg))))) (zA (yn ziv)) yQ) (zp (yL (yF zom (zs7 (qB hr)) (by with_unfolding_all rfl) (za (qe (zd (zb (pv 4)) (zd (zb (pv 5)) zg)))) (zb (pv 3))) (zA (yn ziv)) yQ) (zp (yL (yF zs6 zyv (yE _) (za (ziy (qB hr) (zb (pv 3)) (za (qe (zd (zb (pv 4)) (zd (zb (pv 6)) zg)))) (za zh) ⟨rfl,rfl,rfl,rfl⟩)) (za (zk zI (zJ rfl) (fun _ _=>rfl) (zb (pv 1)) (za zh)))) (zA (yn ziv)) yQ) (zp (yL (yF zs6 zyv (yE _) (za (ziy (qB hr) (zb (pv 3)) (zb (pv 6)) (za zh) ⟨rfl,rfl,rfl,rfl⟩)) (za (zk zI (zJ rfl) (fun _ _=>rfl) (zb (pv 1)) (za zh)))) (zA (yn ziv)) yQ) (zA (yn zu4)))))))))
theorem zkb (T:Txt K mg):FnOk P w K mg base (XT P w) 1 T.f_count_row T.fd_count_row ["row","ahead"] (zB (kx T) 2 f_count_row):=yA T.d_count_row.F sc_count_row fun cdv A outer s H E hr=>by unfold zej zdn;exact (zp (zs3 (r_v (pv 0)) (qw (n:=3) (qH rfl (z0 (zM (zW (i:=2) sc_count_row.nd rfl (Or.inl rfl))) (z0 (zM (zW (i:=3) sc_count_row.nd rfl (Or.inl rfl))) (z0 (zM (zW (i:=4) sc_count_row.nd rfl (Or.inl rfl))) qr zZ) zZ) zZ)) (z5 (z5 (z5 qv)))) zlx) (zA (yW PassesOwn.leaving rfl (qk rfl (za (qA (zd (za (qe (zd (zb (pv 2)) (zd (zb (pv 3)) zg)))) (zd (za (qe (zd (zb (pv 2)) (zd (zb (pv 4)) zg)))) (zd (zb (pv 4)) zg)))))) (zM (zW (i:=5) sc_count_row.nd rfl (Or.inl rfl))) (zA (zgs (qB hr) (zu z4 z9 (za (ziy (qB hr) (zb (pv 1)) (zb (pv 5)) (za zh) ⟨rfl,rfl,rfl,rfl⟩)) (za zh)) (zb (pv 1)) (zb (pv 5)))))))
theorem zrw (T:Txt K mg):FnOk P w K mg base (XT P w) 3 T.f_faults T.fd_faults ["load","calendar","plan"] (zB (kx T) 3 f_faults):=yA T.d_faults.F sc_faults fun cdv A outer s H E hr=>by unfold zh8 zff zfl;exact (zp (zO (i:=3) sc_faults.nd rfl (Or.inl rfl) zo4) (zp (yW PassesOwn.leaving rfl (qk rfl (zb (pv 0))) (zM (zW (i:=4) sc_faults.nd rfl (Or.inl rfl))) (zA (zgs (qB hr) (r_v (pv 4)) (zb (pv 3)) (za (zk zI (zJ rfl) (fun _ _=>rfl) (zb (pv 4)) (za zh)))))) (zp (zO (i:=5) sc_faults.nd rfl (Or.inl rfl) (r_gl zo4)) (zp (zO (i:=6) sc_faults.nd rfl (Or.inl rfl) (qA zg)) (zp (yW PassesOwn.leaving rfl (zfh rfl rfl T.n_enumerate (zd (zb (pv 2)) zg)) (qw (n:=2) (qH rfl (z0 (zM (zW (i:=7) sc_faults.nd rfl (Or.inl rfl))) (z0 (zM (zW (i:=8) sc_faults.nd rfl (Or.inl rfl))) qr zZ) zZ)) (z5 (z5 qv))) (zp (zO (i:=9) sc_faults.nd rfl (Or.inl rfl) (yg zil (zjy T) (hr.mono (by decide)) (by rfl) T.d_fault_word.g T.d_fault_word.F.kp T.d_fault_word.b yf (zd (zb (pv 8)) (zd (za (zvp (qB hr) (zb (pv 3)) (za (zk zI (zJ rfl) (fun _ _=>rfl) (zb (pv 8)) (za zh))) ⟨rfl,rfl,rfl,rfl⟩)) (zd (zb (pv 1)) (zd (zb (pv 5)) zg)))))) (zp (yL (yF zq9 zum (yE _) (zb (pv 9)) (za zu4)) (yh 9 (zA (qV zbm rfl PySem.F.slot_list_append PySem.F.type_list_append qW (zb (pv 6)) (zd (za (qe (zd (zb (pv 7)) (zd (zb (pv 9)) zg)))) zg)))) yQ) (zA (zwf (yg zjh (zkb T) (hr.mono (by decide)) (by rfl) T.d_count_row.g T.d_count_row.F.kp T.d_count_row.b yf (zd (zb (pv 8)) (zd (zb (pv 5)) zg)))))))) (zA (zdg (pv 6))))))))
theorem zg7 (T:Txt K mg):FnOk P w K mg base (XT P w) 1 T.f_turns_worked T.fd_turns_worked ["plan","name"] (zB (kx T) 2 f_turns_worked):=yA T.d_turns_worked.F zgi fun cdv A outer s H E hr=>by unfold zc3 zbo;exact (zA (yn (zhc (loc:=["row"]) (free:=["name"]) (fr:=[1]) rfl (zay (sc:=zT zc0) (N:=(["plan","name"]:List Str)) rfl rfl (by decide+kernel)) (qk rfl (zb (pv 0))) (fun _ _ _ _ _=>(zM (qL 0 (["row","name"]:List Str) (by decide+kernel) rfl rfl (Or.inl rfl) rfl))) (fun _ _ _ _ _=>(zis (yF zeh (zed (qm hr)) (yE _) (za (zk zI (zJ rfl) (fun _ _=>rfl) (zb (pv 0)) (za zh))) (zb (pv 1))))) (fun _ _ _ _ _=>(zk zI (zJ rfl) (fun _ _=>rfl) (zb (pv 0)) (za zh))))))
theorem zqh (T:Txt K mg):FnOk P w K mg base (XT P w) 2 T.f_undone T.fd_undone ["load","plan"] (zB (kx T) 2 f_undone):=yA T.d_undone.F zod fun cdv A outer s H E hr=>by unfold zii zd5;exact (zA (yn (zhc (loc:=["job"]) (free:=["plan"]) (fr:=[1]) rfl (zay (sc:=zT zin) (N:=(["load","plan"]:List Str)) rfl rfl (by decide+kernel)) (qk rfl (zb (pv 0))) (fun _ _ _ _ _=>(zM (qL 0 (["job","plan"]:List Str) (by decide+kernel) rfl rfl (Or.inl rfl) rfl))) (fun _ _ _ _ _=>ze8) (fun _ _ _ _ _=>(yr zqb (zje rfl) (by rfl) T.n_max PyProof.Rows.boot_max (zd (za zh) (zd (za (zu zde ze1 (za (zk zI (zJ rfl) (fun _ _=>rfl) (zb (pv 0)) (za zh))) (za (yr qE (qF rfl) (by rfl) T.n_len PySem.boot_len (zd (za (yg zf6 (zg7 T) (hr.mono (by decide)) (by rfl) T.d_turns_worked.g T.d_turns_worked.F.kp T.d_turns_worked.b zyy (zd (zb (pv 1)) (zd (za (zk zI (zJ rfl) (fun _ _=>rfl) (zb (pv 0)) (za zh))) zg)))) zg))))) zg)))))))
theorem G_law (T:Txt K mg):FnOk P w K mg base (XT P w) 8 T.f_law T.fd_law ["_law_script"] (zB (kx T) 1 f_law):=yA T.d_law.F sc_law fun cdv A outer s H E hr=>by unfold zvt zk2 zig zj6 zi0;exact (zp (zO (i:=1) sc_law.nd rfl (Or.inl rfl) (yg zk1 (zm6 T) (hr.mono (by decide)) (by rfl) T.d_law_days.g T.d_law_days.F.kp T.d_law_days.b yf (zd (zb (pv 0)) (zd (za (zu z4 z9 (za zh) (za (zu yP yN (za (yg zbh (zbw T) (hr.mono (by decide)) (by rfl) T.d_law_cell.g T.d_law_cell.F.kp T.d_law_cell.b yf (zd (zb (pv 0)) (zd (za zh) zg)))) (za zh))))) zg)))) (zp (zO (i:=2) sc_law.nd rfl (Or.inl rfl) (zu z4 z9 (za zh) (za (zu yP yN (za (yg zbh (zbw T) (hr.mono (by decide)) (by rfl) T.d_law_cell.g T.d_law_cell.F.kp T.d_law_cell.b yf (zd (zb (pv 0)) (zd (za zh) zg)))) (za zh))))) (yh 2 (yh 1 (zp (zO (i:=3) sc_law.nd rfl (Or.inl rfl) (yg zi6 (zk0 T) (hr.mono (by decide)) (by rfl) T.d_law_cells.g T.d_law_cells.F.kp T.d_law_cells.b yf (zd (zb (pv 1)) (zd (zb (pv 2)) zg)))) (zp (zO (i:=4) sc_law.nd rfl (Or.inl rfl) (yg zjf (zk5 T) (hr.mono (by decide)) (by rfl) T.d_law_names.g T.d_law_names.F.kp T.d_law_names.b yf (zd (za (yg zbh (zbw T) (hr.mono (by decide)) (by rfl) T.d_law_cell.g T.d_law_cell.F.kp T.d_law_cell.b yf (zd (zb (pv 0)) (zd (za zh) zg)))) (zd (za (zu z4 z9 (za zh) (za (zu yP yN (za (zu zc2 zc6 (za (yg zbh (zbw T) (hr.mono (by decide)) (by rfl) T.d_law_cell.g T.d_law_cell.F.kp T.d_law_cell.b yf (zd (zb (pv 0)) (zd (za zh) zg)))) (za zh))) (za zh))))) zg)))) (yh 3 (zp (zkt (i:=5) sc_law.nd rfl (by rfl) (loc:=["_law_first","_law_last","_law_machines"]) (free:=[]) (fr:=[]) rfl (zay (sc:=zT zrv) (N:=(["_law_script","_law_rows","_law_rest","_law_pieces","_law_names_here","_law_rooms","_law_load","_law_shares_here","_law_j","_law_name","_law_number","_law_begin","_law_end","_law_job","_law_plan","_law_left","_law_calendar","_law_some"]:List Str)) rfl rfl (by decide+kernel)) (qk rfl (zb (pv 3))) (fun _ _ _ _ _=>(qw (n:=3) (pgT 3 rfl rfl (z0 (zM (qL 0 (["_law_first","_law_last","_law_machines"]:List Str) (by decide+kernel) rfl rfl (Or.inl rfl) rfl)) (z0 (zM (qL 1 (["_law_first","_law_last","_law_machines"]:List Str) (by decide+kernel) rfl rfl (Or.inl rfl) rfl)) (z0 (zM (qL 2 (["_law_first","_law_last","_law_machines"]:List Str) (by decide+kernel) rfl rfl (Or.inl rfl) rfl)) qr zZ) zZ) zZ)) (z5 (z5 (z5 qv))))) (fun _ _ _ _ _=>ze8) (fun _ _ _ _ _=>(zu zdc zdb (zb (pv 2)) (za (zu z4 z9 (za (zu zde ze1 (zb (pv 1)) (zb (pv 0)))) (za zh)))))) (zp (zO (i:=6) sc_law.nd rfl (Or.inl rfl) (qA zg)) (zp (zO (i:=7) sc_law.nd rfl (Or.inl rfl) (qA zg)) (yh 4 (zp (yW PassesOwn.leaving rfl (zfh rfl rfl T.n_enumerate (zd (zb (pv 4)) zg)) (qw (n:=2) (qH rfl (z0 (zM (zW (i:=8) sc_law.nd rfl (Or.inl rfl))) (z0 (zM (zW (i:=9) sc_law.nd rfl (Or.inl rfl))) qr zZ) zZ)) (z5 (z5 qv))) (zp (zO (i:=10) sc_law.nd rfl (Or.inl rfl) (yg zbh (zbw T) (hr.mono (by decide)) (by rfl) T.d_law_cell.g T.d_law_cell.F.kp T.d_law_cell.b yf (zd (zb (pv 0)) (zd (za (zu z4 z9 (za zh) (zb (pv 8)))) zg)))) (zp (zO (i:=11) sc_law.nd rfl (Or.inl rfl) (zu yP yN (zb (pv 10)) (za (yr qE (qF rfl) (by rfl) T.n_len PySem.boot_len (zd (zb (pv 3)) zg))))) (zp (zO (i:=12) sc_law.nd rfl (Or.inl rfl) (zu z4 z9 (zb (pv 11)) (za (zu yP yN (za (zu zc2 zc6 (zb (pv 10)) (za zh))) (za (zu zde ze1 (za (yr qE (qF rfl) (by rfl) T.n_len PySem.boot_len (zd (zb (pv 3)) zg))) (zb (pv 11)))))))) (zp (zO (i:=13) sc_law.nd rfl (Or.inl rfl) (qe (zd (zb (pv 9)) (zd (za (zk zI (zJ rfl) (fun _ _=>rfl) (za (zk zI (zJ rfl) (fun _ _=>rfl) (zb (pv 3)) (zb (pv 11)))) (za zh))) (zd (za (zk zI (zJ rfl) (fun _ _=>rfl) (za (zk zI (zJ rfl) (fun _ _=>rfl) (zb (pv 3)) (zb (pv 12)))) (za zh))) (zd (za (zu z4 z9 (za zh) (za (zu yP yN (za (zu zc2 zc6 (zb (pv 10)) (za zh))) (za zh))))) (zd (za (zu z4 z9 (za zh) (za (zu yP yN (za (yg zbh (zbw T) (hr.mono (by decide)) (by rfl) T.d_law_cell.g T.d_law_cell.F.kp T.d_law_cell.b yf (zd (zb (pv 0)) (zd (za (zu z4 z9 (za zh) (zb (pv 8)))) zg)))) (za zh))))) zg))))))) (zp (qV zbm rfl PySem.F.slot_list_append PySem.F.type_list_append qW (zb (pv 6)) (zd (zb (pv 13)) zg)) (yh 3 (yh 12 (zA (qV zbm rfl PySem.F.slot_list_append PySem.F.type_list_append qW (zb (pv 7)) (zd (za (yg zi1 (zjz T) (hr.mono (by decide)) (by rfl) T.d_law_shares.g T.d_law_shares.F.kp T.d_law_shares.b yf (zd (zb (pv 0)) (zd (zb (pv 8)) (zd (zb (pv 13)) (zd (za (qe (zd (zb (pv 11)) (zd (zb (pv 12)) zg)))) (zd (zb (pv 3)) (zd (zb (pv 5)) zg)))))))) zg))))))))))) (yh 7 (yh 3 (yh 6 (zp (zO (i:=14) sc_law.nd rfl (Or.inl rfl) (yg zue (zwv T) (hr.mono (by decide)) (by rfl) T.d_laid.g T.d_laid.F.kp T.d_laid.b yf (zd (zb (pv 6)) (zd (zb (pv 3)) (zd (zb (pv 7)) zg))))) (yh 7 (yh 3 (yh 6 (yh 14 (zp (yL (PW.pt (zkw (yF zj5 (zi4 (qm hr)) (yE _) (zb (pv 14)) (za (yr zln (zhb rfl) (by rfl) T.n_sorted PyProof.Rows.boot_sorted (zd (zb (pv 14)) zg)))) (zkw (ze0 (zha (yg zg2 (zio T) (hr.mono (by decide)) (by rfl) T.d_law_counted.g T.d_law_counted.F.kp T.d_law_counted.b yf (zd (zb (pv 14)) (zd (zb (pv 6)) (zd (zb (pv 3)) (zd (zb (pv 7)) zg))))))) (zhf (ze0 (zha (yg zih (zjd T) (hr.mono (by decide)) (by rfl) T.d_law_seated.g T.d_law_seated.F.kp T.d_law_seated.b yf (zd (zb (pv 14)) (zd (zb (pv 6)) zg))))))))) (zA (yn r_bl)) yQ) (yh 7 (yh 6 (zp (zfb (i:=15) sc_law.nd rfl (by rfl) (loc:=["_law_job","_law_some"]) (free:=[]) (fr:=[]) rfl (zay (sc:=zT zrv) (N:=(["_law_script","_law_rows","_law_rest","_law_pieces","_law_names_here","_law_rooms","_law_load","_law_shares_here","_law_j","_law_name","_law_number","_law_begin","_law_end","_law_job","_law_plan","_law_left","_law_calendar","_law_some"]:List Str)) rfl rfl (by decide+kernel)) (zsz rfl rfl T.n_zip (zd (zb (pv 6)) (zd (zb (pv 7)) zg))) (fun _ _ _ _ _=>(qw (n:=2) (pgT 2 rfl rfl (z0 (zM (qL 0 (["_law_job","_law_some"]:List Str) (by decide+kernel) rfl rfl (Or.inl rfl) rfl)) (z0 (zM (qL 1 (["_law_job","_law_some"]:List Str) (by decide+kernel) rfl rfl (Or.inl rfl) rfl)) qr zZ) zZ)) (z5 (z5 qv)))) (fun _ _ _ _ _=>ze8) (fun _ _ _ _ _=>(zu zde ze1 (za (zk zI (zJ rfl) (fun _ _=>rfl) (zb (pv 0)) (za zh))) (za (yr zhx (zew rfl rfl) (by rfl) T.n_sum PyProof.Rows.boot_sum (zd (zb (pv 1)) zg)))))) (yh 2 (yh 1 (zp (zO (i:=16) sc_law.nd rfl (Or.inl rfl) (zz6 (zz7 rfl zft T.M_Calendar (zgy T) (hr.mono (by decide)) (by rfl) T.g_Calendar T.d_Calendar_init.b yf (zd (zb (pv 1)) (zd (zb (pv 2)) zg))))) (yh 14 (zp (yW PassesOwn.leaving rfl (qk rfl (za (qA (zd (zb (pv 14)) (zd (za (zwm rfl rfl (by rfl) T.n_list (by rfl) T.n_reversed (zd (zb (pv 14)) zg))) zg))))) (zM (zW (i:=17) sc_law.nd rfl (Or.inl rfl))) (yh 16 (yh 6 (zA (yL (PW.pt (zkw (yF zj5 (zi4 (qm hr)) (yE _) (za (yg znx (zrw T) (hr.mono (by decide)) (by rfl) T.d_faults.g T.d_faults.F.kp T.d_faults.b yf (zd (zb (pv 6)) (zd (zb (pv 16)) (zd (zb (pv 17)) zg))))) (za (qA zg))) (zhf (yF zj5 (zi4 (qm hr)) (yE _) (za (yg zp0 (zqh T) (hr.mono (by decide)) (by rfl) T.d_undone.g T.d_undone.F.kp T.d_undone.b yf (zd (zb (pv 6)) (zd (zb (pv 17)) zg)))) (zb (pv 15)))))) (zA (yn r_bl)) yQ))))) (zA (yn r_bl)))))))))))))))))))))))))))))))
end
end My
namespace PySem.W.Fast
def tw14598715356260435866:=0
def tw7238046018651277534:=0
def tw6534874000650894987:=0
def tw10544295344006241723:=0
def tw3182386257043530798:=0
def tw12329155263669439519:=0
def tw3677632882827384062:=0
def tw13388153557339397715:=0
def tw16205993139258394665:=0
def tw12186927737360925045:=0
def tw13256641116850012859:=0
def tw4069818745696331118:=0
def tw12309487429465621764:=0
def tw10594365738534580157:=0
def tw1319192029097868252:=0
def tw10178460254095656201:=0
def tw17846797487192150033:=0
def tw12196925527506493495:=0
def tw8565733149115213228:=0
def tw6667695353286145696:=0
def tw11488531227469871684:=0
def tw5822829993140332335:=0
def tw1992449075930466090:=0
def tw5262731503136342451:=0
def tw5173889594236819067:=0
def tw10531621347620151403:=0
def tw12411216588197505872:=0
def tw17495155262278756735:=0
def tw8988036822726370258:=0
def tw3510150404263062150:=0
def tw17754248650196429969:=0
end PySem.W.Fast
namespace My
open PySem PySem.W L2 L3
noncomputable def ask:L4.Ask where
 law:=35
 at_:=[2,3,15,17,18,20,21,22,24,25,27,28,29,32,33,34,41,42,43,44,47,54,55,56,59,61,62,64,65,66,68,69,71,72,73,75,76,78,79,80,82,83,85,86,87,89,90,92,93,94,97,98,99,101,102,104,105,106,108,109,111,112,120,122,123,125,126,127,129,130,132,133,134,136,137,139,140,141,143,144,146,147,148,150,151,153,154,155,157,158,160,161,162,164,165,167,168,169,171,172,174,175,176,178,179,181,182,183,185,186,188,189,190,192,193,195,196,197,198,199,200,201,204,206,207,209,210,211,213,214,216,217,218,220,221,223,224,225,228,229,230,233,234,235,237,238,240,241,242,244,245,247,248,249,251,252,254,255,256,258,259,261,262,263,265,266,268,269,270,273,274,275,278,279,280,283,284]
 defs:=[("_law_cell",28),("_law_days",30),("_law_cells",31),("_law_names",29),("laid_in_cell",2),("laid",3),("neighbours_as_one",18),("kept_rows",19),("is_whole",8),("is_whole_between",9),("is_machines",14),("is_calendar_row",16),("are_calendar_rows",17),("is_rest",15),("_law_shares",32),("_law_counted",33),("_law_seated",34),("fault_word",22),("count_row",23),("faults",24),("turns_worked",25),("undone",26),("law",35)]
 cls:=[("Calendar",20,[("__init__","Calendar.__init__",0),("at","Calendar.at",3)],["stretches","beyond"])]
 bare:=["all","bool","enumerate","int","isinstance","len","list","max","min","range","reversed","sorted","sum","tuple","zip"]
 con:=[("MOST_ROWS",.int 16),("MOST_TURNS_OF_ROW",.int 1000000),("MOST_MACHINES",.int 16)]
end My
lay_quick L4.claim L4.goal My.ask PySem.Challenge.pw_dueyard_k34_whole_laid_plans_walked
open PySem PySem.W in
theorem My.one1: ∀(w:World) (os:OsState),PySem.W.Fast.tw6268680626415656479 PySem.W.Fast.tw450080476106443438 20000 PySem.W.Fast.tw10399520508899988609 w os=PySem.W.Fast.tw12952061662341455360 PySem.W.Fast.tw450080476106443438 PySem.W.Fast.tw10399520508899988609:=by
 intro w os
 kernel_rfl
open PySem PySem.W in
theorem My.one: ∀(w:World) (os:OsState),L4.claim My.ask 20000 PySem.Challenge.pw_dueyard_k34_whole_laid_plans_walked w os=L4.goal My.ask PySem.Challenge.pw_dueyard_k34_whole_laid_plans_walked:=by
 rw [PySem.W.Fast.te6268680626415656479,PySem.W.Fast.te12952061662341455360,PySem.W.Fast.te450080476106443438,PySem.W.Fast.te10399520508899988609]
 exact My.one1
namespace L3
open PySem L2
theorem ev:type_of% (zc (zc (zc (zc (zc (zc @L3.fun3.eq_1 (zc @L3.start3.eq_1 @L3.sSeq.eq_1)) (zc (zc @L3.sSet.eq_1 @L3.sRet.eq_1) (zc @L3.sRetS.eq_1 @L3.sRetN.eq_1))) (zc (zc (zc @L3.sIf.eq_1 @L3.sExp.eq_1) (zc @L3.sFz.eq_1 @L3.sAug.eq_1)) (zc (zc @L3.sAsg.eq_1 @L3.sSkip.eq_1) (zc @L3.sNever.eq_1 @L3.gN.eq_1)))) (zc (zc (zc @L3.eV.eq_1 (zc @L3.eC.eq_1 @L3.pV.eq_1)) (zc (zc @L3.pE.eq_1 @L3.eOp.eq_1) (zc @L3.eNeg.eq_1 @L3.eNot.eq_1))) (zc (zc (zc @L3.eAnd.eq_1 @L3.eOr.eq_1) (zc @L3.eIf.eq_1 @L3.eChain.eq_1)) (zc (zc @L3.oEq_int @L3.oNe_int) (zc @L3.nx_ite @L3.rt_ite))))) (zc (zc (zc (zc @L3.ok_ite (zc @L3.cons_ite @L3.some_ite)) (zc (zc @L3.v_ite @L3.int_ite) (zc @L3.bl_ite @ite_self.{1}))) (zc (zc (zc @decide_eq_true_eq @and_true) (zc @true_and @and_self)) (zc (zc @L3.eTup.eq_1 @L3.eLst.eq_1) (zc @L3.aCons.eq_1 @L3.aNil.eq_1)))) (zc (zc (zc (zc @L3.eB.eq_1 @L3.isa.eq_1) (zc @L3.eCall.eq_1 @L3.tE.eq_1)) (zc (zc @L3.tP.eq_1 @L3.tTru.eq_1) (zc @L3.tAnd3.eq_1 @L3.tOr3.eq_1))) (zc (zc (zc @L3.tNot3.eq_1 @L3.mtO.eq_1) (zc @L3.at0 @L3.at1)) (zc (zc @L3.at2 @L3.at3) (zc @L3.at4 @List.map_cons.{0,0})))))) (zc (zc (zc (zc (zc @List.map_nil.{0,0} (zc @List.length_cons.{0} @List.length_nil.{0})) (zc (zc @List.cons_append.{0} @List.nil_append.{0}) (zc @List.append_nil.{0} @List.getElem?_cons_zero.{0}))) (zc (zc (zc @List.getElem?_cons_succ.{0} @List.getElem?_nil.{0}) (zc @List.set_cons_zero.{0} @List.set_cons_succ.{0})) (zc (zc @Option.map_some.{0,0} @Option.map_none.{0,0}) (zc @Option.bind_some.{0,0} @Nat.zero_add)))) (zc (zc (zc @ite_true.{1} (zc @ite_false.{1} @if_true.{1})) (zc (zc @if_false.{1} @Bool.not_true) (zc @Bool.not_false @decide_true))) (zc (zc (zc @decide_false @Bool.true_and) (zc @Bool.false_and @Bool.or_true)) (zc (zc @Bool.or_false @Bool.true_or) (zc @Bool.false_or @beq_self_eq_true.{0}))))) (zc (zc (zc (zc @or_true (zc @true_or @or_false)) (zc (zc @false_or @L3.oAdd_int) (zc @L3.oAddI_int @L3.oSub_int))) (zc (zc (zc @L3.oMul_int @L3.oDiv_int) (zc @L3.oMod_int @L3.oShr_int)) (zc (zc @L3.oPow_int @L3.oAndI_int) (zc @L3.oLt_int @L3.oLe_int)))) (zc (zc (zc (zc @L3.oGt_int @L3.oGe_int) (zc @L3.oIx_tup @L3.oIx_lst)) (zc (zc @L3.oIx_scr @L3.sMt_ap) (zc @L3.mAppend_ok @L3.sz0))) (zc (zc (zc @L3.sz1 @L3.sz2) (zc @L3.sz3 @L3.sz4)) (zc (zc @L3.sz5 @L3.gb.eq_1) (zc @Int.cast_ofNat_Int @Bool.false_eq_true))))))):=(zc (zc (zc (zc (zc (zc @L3.fun3.eq_1 (zc @L3.start3.eq_1 @L3.sSeq.eq_1)) (zc (zc @L3.sSet.eq_1 @L3.sRet.eq_1) (zc @L3.sRetS.eq_1 @L3.sRetN.eq_1))) (zc (zc (zc @L3.sIf.eq_1 @L3.sExp.eq_1) (zc @L3.sFz.eq_1 @L3.sAug.eq_1)) (zc (zc @L3.sAsg.eq_1 @L3.sSkip.eq_1) (zc @L3.sNever.eq_1 @L3.gN.eq_1)))) (zc (zc (zc @L3.eV.eq_1 (zc @L3.eC.eq_1 @L3.pV.eq_1)) (zc (zc @L3.pE.eq_1 @L3.eOp.eq_1) (zc @L3.eNeg.eq_1 @L3.eNot.eq_1))) (zc (zc (zc @L3.eAnd.eq_1 @L3.eOr.eq_1) (zc @L3.eIf.eq_1 @L3.eChain.eq_1)) (zc (zc @L3.oEq_int @L3.oNe_int) (zc @L3.nx_ite @L3.rt_ite))))) (zc (zc (zc (zc @L3.ok_ite (zc @L3.cons_ite @L3.some_ite)) (zc (zc @L3.v_ite @L3.int_ite) (zc @L3.bl_ite @ite_self.{1}))) (zc (zc (zc @decide_eq_true_eq @and_true) (zc @true_and @and_self)) (zc (zc @L3.eTup.eq_1 @L3.eLst.eq_1) (zc @L3.aCons.eq_1 @L3.aNil.eq_1)))) (zc (zc (zc (zc @L3.eB.eq_1 @L3.isa.eq_1) (zc @L3.eCall.eq_1 @L3.tE.eq_1)) (zc (zc @L3.tP.eq_1 @L3.tTru.eq_1) (zc @L3.tAnd3.eq_1 @L3.tOr3.eq_1))) (zc (zc (zc @L3.tNot3.eq_1 @L3.mtO.eq_1) (zc @L3.at0 @L3.at1)) (zc (zc @L3.at2 @L3.at3) (zc @L3.at4 @List.map_cons.{0,0})))))) (zc (zc (zc (zc (zc @List.map_nil.{0,0} (zc @List.length_cons.{0} @List.length_nil.{0})) (zc (zc @List.cons_append.{0} @List.nil_append.{0}) (zc @List.append_nil.{0} @List.getElem?_cons_zero.{0}))) (zc (zc (zc @List.getElem?_cons_succ.{0} @List.getElem?_nil.{0}) (zc @List.set_cons_zero.{0} @List.set_cons_succ.{0})) (zc (zc @Option.map_some.{0,0} @Option.map_none.{0,0}) (zc @Option.bind_some.{0,0} @Nat.zero_add)))) (zc (zc (zc @ite_true.{1} (zc @ite_false.{1} @if_true.{1})) (zc (zc @if_false.{1} @Bool.not_true) (zc @Bool.not_false @decide_true))) (zc (zc (zc @decide_false @Bool.true_and) (zc @Bool.false_and @Bool.or_true)) (zc (zc @Bool.or_false @Bool.true_or) (zc @Bool.false_or @beq_self_eq_true.{0}))))) (zc (zc (zc (zc @or_true (zc @true_or @or_false)) (zc (zc @false_or @L3.oAdd_int) (zc @L3.oAddI_int @L3.oSub_int))) (zc (zc (zc @L3.oMul_int @L3.oDiv_int) (zc @L3.oMod_int @L3.oShr_int)) (zc (zc @L3.oPow_int @L3.oAndI_int) (zc @L3.oLt_int @L3.oLe_int)))) (zc (zc (zc (zc @L3.oGt_int @L3.oGe_int) (zc @L3.oIx_tup @L3.oIx_lst)) (zc (zc @L3.oIx_scr @L3.sMt_ap) (zc @L3.mAppend_ok @L3.sz0))) (zc (zc (zc @L3.sz1 @L3.sz2) (zc @L3.sz3 @L3.sz4)) (zc (zc @L3.sz5 @L3.gb.eq_1) (zc @Int.cast_ofNat_Int @Bool.false_eq_true)))))))
end L3
local macro_rules | `(tactic| simp_arith [$xs,*] $[$l]?)=> `(tactic| simp only [L3.fun3,L3.start3,L3.O3.res,L3.sSeq,L3.sSet,L3.sRet,L3.sRetS,L3.sRetN,L3.sIf,L3.sExp,L3.sFz,L3.sAug,L3.sAsg,L3.sSkip,L3.sNever,L3.gN,L3.gT,L3.gL,L3.gsCons,L3.gsNil,L3.eV,L3.eC,L3.pV,L3.pE,L3.eOp,L3.eNeg,L3.eNot,L3.eAnd,L3.eOr,L3.eIf,L3.eChain,L3.oEq_int,L3.oNe_int,L3.nx_ite,L3.rt_ite,L3.ok_ite,L3.cons_ite,L3.some_ite,L3.v_ite,L3.int_ite,L3.bl_ite,ite_self,decide_eq_true_eq,and_true,true_and,and_self,L3.oIsN,L3.eTup,L3.eLst,L3.aCons,L3.aNil,L3.vals3,L3.eB,L3.bLen,L3.bMax,L3.bMin,L3.bMin3,L3.bInt,L3.bList,L3.bIsT,L3.ty3,L3.isa,L3.eCall,L3.opt,L3.Res.bind,L3.Res.bindS,L3.Vl.fz,L3.C3.fz,L3.tE,L3.tP,L3.tru3,L3.tTru,L3.tAnd3,L3.tOr3,L3.tNot3,L3.rdl,L3.rdm,L3.mtO,L3.wr3,L3.at0,L3.at1,L3.at2,L3.at3,L3.at4,List.map_cons,List.map_nil,List.length_cons,List.length_nil,List.replicate,List.cons_append,List.nil_append,List.append_nil,List.getElem?_cons_zero,List.getElem?_cons_succ,List.getElem?_nil,List.set_cons_zero,List.set_cons_succ,Option.map_some,Option.map_none,Option.bind_some,Nat.reduceSub,Nat.reduceAdd,Nat.reduceLT,Nat.reduceEqDiff,Nat.reduceLeDiff,Nat.zero_add,reduceIte,ite_true,ite_false,if_true,if_false,Bool.not_true,Bool.not_false,decide_true,decide_false,Bool.true_and,Bool.false_and,Bool.or_true,Bool.or_false,Bool.true_or,Bool.false_or,beq_self_eq_true,String.reduceEq,String.reduceBEq,or_true,true_or,or_false,false_or,reduceCtorEq,Int.reduceLT,Int.reduceLE,Int.reduceNeg,L3.oAdd_int,L3.oAddI_int,L3.oSub_int,L3.oMul_int,L3.oDiv_int,L3.oMod_int,L3.oShr_int,L3.oPow_int,L3.oAndI_int,L3.oLt_int,L3.oLe_int,L3.oGt_int,L3.oGe_int,L3.oIx_tup,L3.oIx_lst,L3.oIx_scr,L3.sMt_ap,L3.mAppend_ok,L3.sz0,L3.sz1,L3.sz2,L3.sz3,L3.sz4,L3.sz5,L3.gb,Int.cast_ofNat_Int,Int.reduceEq,Bool.false_eq_true,$xs,*] $[$l]?)
namespace L3
open PySem L2
def tx (l:List Nat):Str:=⟨l.toArray⟩
theorem zn6 (l:List Nat):(tx l).length=l.length:=by simp [tx,Str.length]
theorem zxq (l:List Nat):(tx l).cps.toList=l:=by simp [tx]
theorem zw2 {a b:List Nat} (h:tx a=tx b):a=b:=by have:=congrArg (fun z:Str=>z.cps.toList) h;simpa [tx] using this
theorem zwp (a b:List Nat):tx a++tx b=tx (a++b):=by
 show Str.append (tx a) (tx b)=_
 simp [Str.append,tx]
noncomputable def abc:List Nat:=[97,98,99,100,101,102,103,104,105,106,107,108,109,110,111,112,113,114,115,116,117,118,119,120,121,122]
def abc9:List Nat:=abc++[48,49,50,51,52,53,54,55,56,57]
theorem zxg:("abcdefghijklmnopqrstuvwxyz" :Str)=tx abc:=by decide+kernel
theorem zqr:("" :Str)=tx []:=by decide+kernel
theorem zpz {s:S3} {h:H3} {l:List Nat} {i:Int} (hl:l.length≤sizeLine):zr s h (.x (.str (tx l))) (.x (.int i))=(atI l i).map fun c=> .v (.str (tx [c])):=by
 unfold zr qq oIxT oIxL oIxS
 simp only [rdl,zn6,zxq,if_pos hl]
 cases atI l i <;> rfl
theorem zie {s:S3} {h:H3} {a b:List Nat} (hl:a.length+b.length≤sizeLine):zi s h (.x (.str (tx a))) (.x (.str (tx b)))=some (.v (.str (tx (a++b)))):=by
 unfold zi qq zm4 oI zqp
 simp only [zn6,if_pos hl,zwp]
theorem sz36:36≤sizeLine:=by have:=yt;omega
theorem zc9 {α:Type} {n:Nat} {fr:List Nat} {p:P3} {g:G3} {e:E3} {s:S3} {h:H3} {x:V3} {ok:H3→Prop} {enc:α→V3} {l:List α} (I:S3→Prop) (f:α→V3) (ep:p s h= .ok (.x x) h)
  (hw:yj h x=some (l.map enc,ok)) (hl:l.length≤1000000) (h0:I (yB n fr s)) (step: ∀a s,a∈l→I s→∃s1 r,g (enc a) s=some s1∧I s1∧e s1 h= .ok r h∧r.fz=some (f a)):
  yS n fr (iL p) g tTru e s h= .ok (.m (.lst (l.map f))) h:=by
 have:=zrm (ok:=ok) (g:=g) (e:=e) (h:=h) I enc f (zdr hw).1 (l:=l) (by have:=yt;omega) step h0
 unfold yS iL
 simp only [ep,Res.bind,hw,this]
theorem zk8 {α:Type} {n:Nat} {fr:List Nat} {p:P3} {g:G3} {c:T3} {e:E3} {s:S3} {h:H3} {x:V3} {ok:H3→Prop} {enc:α→V3} {l:List α} (I:S3→Prop) (q:α→Bool) (f:α→V3) (ep:p s h= .ok (.x x) h)
  (hw:yj h x=some (l.map enc,ok)) (hl:l.length≤1000000) (h0:I (yB n fr s)) (step: ∀a s,a∈l→I s→∃s1,g (enc a) s=some s1∧I s1∧c s1 h= .ok (q a) h∧(q a=true→∃r,e s1 h= .ok r h∧r.fz=some (f a))):
  yS n fr (iL p) g c e s h= .ok (.m (.lst ((l.filter q).map f))) h:=by
 have:=zgw (ok:=ok) (g:=g) (c:=c) (e:=e) (h:=h) I enc q f (zdr hw).1 (l:=l) (by have:=yt;omega) step h0
 unfold yS iL
 simp only [ep,Res.bind,hw,this]
theorem zqz {s:S3} {h:H3} {ns:List Int} (hs:zi2 0 ns=true):ye s h [.x (.lst (ns.map .int))]=some (.v (.int ns.sum)):=by
 unfold ye;simp only [rdl,zlb,if_pos hs]
theorem zvw {s:S3} {h:H3} {q:List Bool→Bool} {bs:List Bool}:bAll q s h [.x (.lst (bs.map .bl))]=some (.v (.bl (q bs))):=by
 unfold bAll;simp only [rdl,ztf,Option.map_some]
theorem zqd {α:Type} {it:I3} {g:G3} {b:D3} {s:S3} {h:H3} {its:List V3} {ok:H3→Prop} {enc:α→V3} {l:List α} (ei:it s h= .ok ⟨its,l.map enc,ok⟩ h) (hok:ok h)
  (I:Nat→S3→Prop) (h0:I 0 s) (step: ∀(i:Nat) a s,l[i]? =some a→I i s→∃s2,gb g b (enc a) s h= .nx s2 h∧I (i+1) s2): ∃s',zo it g b s h= .nx s' h∧I l.length s':=by
 have hf:zo it g b s h=zK ok g b (l.map enc) s h:=by
  unfold zo;simp only [ei,Res.bindS]
 rw [hf]
 have:=zkg (ok:=ok) (g:=g) (b:=b) (h:=h) I (xs:=l.map enc) (s:=s) hok h0 fun i x s hx hI=>by
  rw [List.getElem?_map] at hx
  obtain ⟨a,ha,rfl⟩:=Option.map_eq_some_iff.1 hx
  obtain ⟨s2,e,hI2⟩:=step i a s ha hI
  unfold gb at e
  cases q:g (enc a) s with
  | none=>rw [q] at e;cases e
  | some s1=>rw [q] at e;exact ⟨s1,s2,rfl,e,hI2⟩
 rwa [List.length_map] at this
theorem it_R {Q:Res Vl→Prop} {α:Type} {it:I3} {g:G3} {b r:D3} {s:S3} {h:H3} {its:List V3} {ok:H3→Prop} {enc:α→V3} {l:List α} (ei:it s h= .ok ⟨its,l.map enc,ok⟩ h) (hok:ok h)
  (I:Nat→S3→Prop) (h0:I 0 s) (step: ∀(i:Nat) a s,l[i]? =some a→I i s→∃s2,gb g b (enc a) s h= .nx s2 h∧I (i+1) s2) (k: ∀s',I l.length s'→Q ((r s' h).res)):Q ((sSeq (zo it g b) r s h).res):=by
 obtain ⟨s',e,hI⟩:=zqd ei hok I h0 step
 rw [zj3 e];exact k s' hI
noncomputable abbrev zm (p:Int×Int):V3:= .tup [.int p.1,.int p.2]
theorem zrp {ok:H3→Prop} {g:G3} {b:D3} (I:Nat→S3→H3→Prop) {xs:List V3} {s:S3} {h:H3} (hok: ∀i s h,I i s h→ok h) (h0:I 0 s h)
  (step: ∀(i:Nat) x s h,xs[i]? =some x→I i s h→∃s1 s2 h2,g x s=some s1∧b s1 h= .nx s2 h2∧I (i+1) s2 h2): ∃s' h',zK ok g b xs s h= .nx s' h'∧I xs.length s' h':=by
 have gen: ∀(n i:Nat) (s:S3) (h:H3),n=xs.length - i→i≤xs.length→I i s h→∃s' h',zK ok g b (xs.drop i) s h= .nx s' h'∧I xs.length s' h':=by
  intro n
  induction n with
  | zero=>
   intro i s h hn hi hI
   have:i=xs.length:=by omega
   subst this
   rw [List.drop_length]
   unfold zK
   rw [if_pos (hok _ _ _ hI)]
   exact ⟨s,h,rfl,hI⟩
  | succ n ih=>
   intro i s h hn hi hI
   have hlt:i < xs.length:=by omega
   rw [List.drop_eq_getElem_cons hlt]
   unfold zK
   rw [if_pos (hok _ _ _ hI)]
   obtain ⟨s1,s2,h2,hg,hb,hI2⟩:=step i xs[i] s h (zy hlt) hI
   simp only [hg,hb]
   exact ih (i+1) s2 h2 (by omega) hlt hI2
 exact gen _ 0 s h rfl (Nat.zero_le _) h0
theorem zp9 {α:Type} {it:I3} {g:G3} {b:D3} {s:S3} {h:H3} {its:List V3} {ok:H3→Prop} {enc:α→V3} {l:List α} (ei:it s h= .ok ⟨its,l.map enc,ok⟩ h)
  (I:Nat→S3→H3→Prop) (hok: ∀i s h,I i s h→ok h) (h0:I 0 s h) (step: ∀(i:Nat) a s h,l[i]? =some a→I i s h→∃s2 h2,gb g b (enc a) s h= .nx s2 h2∧I (i+1) s2 h2): ∃s' h',zo it g b s h= .nx s' h'∧I l.length s' h':=by
 have hf:zo it g b s h=zK ok g b (l.map enc) s h:=by
  unfold zo;simp only [ei,Res.bindS]
 rw [hf]
 have:=zrp (ok:=ok) (g:=g) (b:=b) I (xs:=l.map enc) (s:=s) (h:=h) hok h0 fun i x s h hx hI=>by
  rw [List.getElem?_map] at hx
  obtain ⟨a,ha,rfl⟩:=Option.map_eq_some_iff.1 hx
  obtain ⟨s2,h2,e,hI2⟩:=step i a s h ha hI
  unfold gb at e
  cases q:g (enc a) s with
  | none=>rw [q] at e;cases e
  | some s1=>rw [q] at e;exact ⟨s1,s2,h2,rfl,e,hI2⟩
 rwa [List.length_map] at this
theorem zre {Q:Res Vl→Prop} {α:Type} {it:I3} {g:G3} {b r:D3} {s:S3} {h:H3} {its:List V3} {ok:H3→Prop} {enc:α→V3} {l:List α} (ei:it s h= .ok ⟨its,l.map enc,ok⟩ h)
  (I:Nat→S3→H3→Prop) (hok: ∀i s h,I i s h→ok h) (h0:I 0 s h) (step: ∀(i:Nat) a s h,l[i]? =some a→I i s h→∃s2 h2,gb g b (enc a) s h= .nx s2 h2∧I (i+1) s2 h2) (k: ∀s' h',I l.length s' h'→Q ((r s' h').res)):Q ((sSeq (zo it g b) r s h).res):=by
 obtain ⟨s',h',e,hI⟩:=zp9 ei I hok h0 step
 rw [zj3 e];exact k s' h' hI
end L3
namespace L2
open PySem
section
variable {n:Nat} {prog:Program} {w:World} {A:Around} {R:Result→Shared→Prop} {I:Addr} {fp wr:List Addr} {P:Nat→Value→Prop} {St:Nat→Heap→Prop}
end
section
variable {l:Addr} {xs:Array (Int×Tok)} {prog:Program} {w:World} {A:Around} {E:Value→Shared→Prop} {s:Shared}
end
end L2
namespace L3
open PySem PySem.Spec PyProof.Rows L2
section
variable {X:Cx} {κ:Kx} {E:XK} {F:Fr} {σ:L2.St} {H H':Hp} {Q:VK} {p:Addr} {pos np kp cp:Pos} {e:Expr} {t:A3}
end
end L3
namespace L3
open PySem L2
def Is (h:H3) (r:Vl) (R:Res Vl):Prop:=R= .ok r h
def Yes (R:Res Vl):Prop:=∃h',R= .ok (.v (.bl true)) h'
theorem zzj {s:S3} {h:H3} {i:Nat} {j:Int}:zr s h (.s i) (.x (.int j))=match s[i]? with
  | some (some (.m (.lst xs)))=>(atI xs j).map .v
  | _=>none:=by
 unfold zr qq oIxT oIxL oIxS
 simp only [rdl]
 generalize s[i]? =o
 match o with
 | none=>rfl
 | some none=>rfl
 | some (some (.v _))=>rfl
 | some (some (.m (.lst xs)))=>simp only [];cases atI xs j <;> rfl
 | some (some (.m (.dK _)))=>rfl
 | some (some (.m (.dT _)))=>rfl
 | some (some (.m (.ins _ _)))=>rfl
 | some (some (.m .dead))=>rfl
theorem zs8 {s:S3} {h:H3} {i:Nat} {l:List V3} {x:V3} (e:s[i]? =some (some (.m (.lst (l++[x]))))):zr s h (.s i) (.x (.int (-1)))=some (.v x):=by
 rw [zzj,e];simp only [atm1,Option.map_some]
theorem zf7 {α β:Type} {l:List α} {f:α→β}:(l.map f).isEmpty=l.isEmpty:=by cases l <;> rfl
theorem zgz {α:Type} {l:List α} {n:Nat} {x y:α} (h:l.length=n):(l++[x]).set n y=l++[y]:=by
 subst h;rw [List.set_append_right _ _ (Nat.le_refl _)];simp
theorem zd0 {α:Type} {l:List α} {i:Nat} {a:α} (h:l[i]? =some a):l.drop i=a::l.drop (i+1):=by
 obtain ⟨hi,rfl⟩:=List.getElem?_eq_some_iff.1 h
 exact List.drop_eq_getElem_cons hi
theorem zb1 {α:Type} {l:List α} {i:Nat} {a:α} (h:l[i]? =some a):l.take (i+1)=l.take i++[a]:=by rw [List.take_add_one,h];rfl
theorem zhy {f:V3→V3→Option Bool}: ∀{xs:List V3},(∀x∈xs,f x x=some true)→qc f xs xs=some true
 | [],_=>rfl
 | x::r,h=>by simp only [qc,h x List.mem_cons_self,zhy (xs:=r) fun y hy=>h y (List.mem_cons_of_mem _ hy),Bool.and_self]
theorem zrj {s:S3} {h:H3} {f g:Rf} {xs:List V3} (hf:rdm s h f=some xs) (hg:rdm s h g=some xs) (hx: ∀x∈xs,yi h 8 x x=some true):qJ s h f g=some true:=by
 unfold qJ;rw [hf,hg];simp only [if_true,zhy hx]
theorem zmp {s:S3} {h:H3} {f g:Rf} {xs:List V3} (hf:rdm s h f=some xs) (hg:rdm s h g=some xs) (hx: ∀x∈xs,yi h 8 x x=some true):qd s h f g=some (.v (.bl false)):=by
 unfold qd;rw [zrj hf hg hx];rfl
theorem zug {h:H3} {n:Nat} {xs:List V3} (hx: ∀x∈xs,yi h n x x=some true):yi h (n+1) (.tup xs) (.tup xs)=some true:=by
 simp only [yi,qg]
 rw [zhy hx];simp
theorem zgb {s:S3} {h:H3} {i j:Str}:yO s h (.x (.str i)) (.x (.str j))=some (.v (.bl (decide (i=j)))):=by
 unfold yO qJ;simp only [rdm,rdl,zpv,Option.map_some]
theorem zo9 {s:S3} {h:H3} {f:Rf} {xs:List V3} (hf:rdm s h f=some xs):qJ s h f (.x (.lst []))=some xs.isEmpty:=by
 unfold qJ;rw [hf]
 simp only [rdm,rdl]
 cases xs <;> rfl
theorem zu0 {s:S3} {h:H3} {f:Rf} {xs:List V3} (hf:rdm s h f=some xs):yO s h f (.x (.lst []))=some (.v (.bl xs.isEmpty)):=by unfold yO;rw [zo9 hf];rfl
theorem zve {s:S3} {h:H3} {f:Rf} {xs:List V3} (hf:rdm s h f=some xs):qd s h f (.x (.lst []))=some (.v (.bl !xs.isEmpty)):=by unfold qd;rw [zo9 hf];rfl
theorem zpl {s:S3} {h:H3} {xs:List V3}:rdm s h (.x (.lst xs))=some xs:=rfl
theorem z0e {s:S3} {h:H3} {i:Nat} {xs:List V3} (e:s[i]? =some (some (.m (.lst xs)))):rdm s h (.s i)=some xs:=by
 show rdl s h (.s i)=_
 simp only [rdl,e]
def IsL (h:H3) (x:V3) (xs:List V3):Prop:=x= .lst xs∨∃n,x= .loc n∧h[n]? =some (.lst xs)
theorem IsL.walk {h:H3} {x:V3} {xs:List V3} (l:IsL h x xs): ∃ok,yj h x=some (xs,ok):=by
 rcases l with rfl | ⟨n,rfl,e⟩
 ·exact ⟨_,rfl⟩
 ·exact ⟨_,by simp only [yj,e];rfl⟩
def ch (i:Int):Nat:=abc9.getD i.toNat 0
theorem zzh {i:Int} (h0:0≤i) (h1:i < 36):atI abc9 i=some (ch i):=by
 obtain ⟨n,rfl⟩:=Int.eq_ofNat_of_zero_le h0
 have hn:n < abc9.length:=by show n < 36;omega
 refine qz (j:=n) ?_
 rw [zy hn]
 unfold ch
 rw [List.getD_eq_getElem?_getD,Int.toNat_natCast,zy hn];rfl
theorem zy8 {i:Int} (h0:0≤i) (h1:i < 26):atI abc i=some (ch i):=by
 obtain ⟨n,rfl⟩:=Int.eq_ofNat_of_zero_le h0
 have hn:n < abc.length:=by show n < 26;omega
 have hn9:n < abc9.length:=by show n < 36;omega
 refine qz (j:=n) ?_
 unfold ch
 rw [List.getD_eq_getElem?_getD,Int.toNat_natCast]
 unfold abc9
 rw [List.getElem?_append_left hn,zy hn];rfl
theorem zui (x:Int):atI abc9 (x % 36)=some (ch (x % 36)):=zzh (by omega) (by omega)
theorem zuo (x:Int):atI abc (x % 26)=some (ch (x % 26)):=zy8 (by omega) (by omega)
theorem zsf: ∀m n:Nat,m < 36→n < 36→ch m=ch n→m=n:=by
 have: ∀m:Nat,m < 36→∀n:Nat,n < 36→ch m=ch n→m=n:=by decide
 exact fun m n hm hn=>this m hm n hn
theorem zvk {x y:Int} (h:ch (x % 36)=ch (y % 36)):x % 36=y % 36:=by
 have:=zsf (x % 36).toNat (y % 36).toNat (by omega) (by omega) (by rw [show (((x % 36).toNat:Nat):Int)=x % 36 by omega,show (((y % 36).toNat:Nat):Int)=y % 36 by omega];exact h)
 omega
theorem zqv {x y:Int} (h:ch (x % 26)=ch (y % 26)):x % 26=y % 26:=by
 have:=zsf (x % 26).toNat (y % 26).toNat (by omega) (by omega) (by rw [show (((x % 26).toNat:Nat):Int)=x % 26 by omega,show (((y % 26).toNat:Nat):Int)=y % 26 by omega];exact h)
 omega
theorem nodup_range {α:Type} {f:Nat→α} {n:Nat} (h: ∀i j,i < j→j < n→f i≠f j):((List.range n).map f).Nodup:=by
 unfold List.Nodup
 rw [List.pairwise_map]
 refine List.Pairwise.imp_of_mem (fun {a b} ha hb hab=>h a b hab (by simpa using hb)) List.pairwise_lt_range
end L3
namespace My
open PySem L2 L3
theorem zya {ns:List Int} {k:Nat} (h1:k < ns.length) (h:H3):f_law_cell [.scr ns,.int k] h= .ok (.v (.int ns[k])) h:=by
 have e:atI (ns.map V3.int) (k:Int)=some (.int ns[k]):=qz (by rw [List.getElem?_map,zy h1];rfl)
 have h2:(k:Int) < (ns.length:Int):=by omega
 simp_arith [f_law_cell,zc8,e,h2,List.length_map]
theorem zyb {ns:List Int} {k:Nat} (h2: ¬(k:Int) < (ns.length:Int)) (h3: ¬(0:Int) < (ns.length:Int)) (n:Int) (en:7919*(k:Int)+101=n) (c2:CMul n n) (h:H3):f_law_cell [.scr ns,.int k] h= .ok (.v (.int (n*n % 1000003))) h:=by
 have c1: ∀x,CMul 7919 x:=fun x=>zeu ⟨by decide,by decide⟩
 simp_arith [f_law_cell,zc8,h2,h3,c1,en,c2,List.length_map]
theorem zwx {ns:List Int} {k:Nat} (h2: ¬(k:Int) < (ns.length:Int)) (h3:(0:Int) < (ns.length:Int)) (v n:Int) (e:atI (ns.map V3.int) (7*(k:Int) % (ns.length:Int))=some (.int v)) (c4: ∀x,CMul x ((k:Int)+3))
  (en:7919*(k:Int)+101+v % 1000003*((k:Int)+3)=n) (c2:CMul n n) (h:H3):f_law_cell [.scr ns,.int k] h= .ok (.v (.int (n*n % 1000003))) h:=by
 have c1: ∀x,CMul 7919 x:=fun x=>zeu ⟨by decide,by decide⟩
 have c3: ∀x,CMul 7 x:=fun x=>zeu ⟨by decide,by decide⟩
 simp_arith [f_law_cell,zc8,h2,h3,c1,c3,c4,e,en,c2,List.length_map]
theorem zpc (ns:List Int) (k:Int) (hk:0≤k∧k≤100): ∃c,∀h,f_law_cell [.scr ns,.int k] h= .ok (.v (.int c)) h:=by
 obtain ⟨k,rfl⟩:=Int.eq_ofNat_of_zero_le hk.1
 by_cases h1:k < ns.length
 ·exact ⟨_,fun h=>zya h1 h⟩
 ·have h2: ¬(k:Int) < (ns.length:Int):=by omega+splitNatSub
  by_cases h0:ns.length=0
  ·have h3: ¬(0:Int) < (ns.length:Int):=by omega+splitNatSub
   exact ⟨_,fun h=>zyb h2 h3 _ rfl (zeu ⟨by omega+splitNatSub,by omega+splitNatSub⟩) h⟩
  ·have h3:(0:Int) < (ns.length:Int):=by omega+splitNatSub
   obtain ⟨j,hj⟩:=Int.eq_ofNat_of_zero_le (Int.emod_nonneg (7*(k:Int)) (show (ns.length:Int)≠0 by omega+splitNatSub))
   have hjl:=Int.emod_lt_of_pos (7*(k:Int)) h3
   rw [hj] at hjl
   have hjn:j < ns.length:=by omega+splitNatSub
   have e:atI (ns.map V3.int) (7*(k:Int) % (ns.length:Int))=some (.int ns[j]):=by
    rw [hj];exact qz (by rw [List.getElem?_map,zy hjn];rfl)
   have hb:0≤ns[j] % 1000003*((k:Int)+3)∧ns[j] % 1000003*((k:Int)+3)≤1000003*103:=by
    have a1:0≤ns[j] % 1000003:=Int.emod_nonneg _ (by omega+splitNatSub)
    have a2:ns[j] % 1000003 < 1000003:=Int.emod_lt_of_pos _ (by omega+splitNatSub)
    exact ⟨Int.mul_nonneg a1 (by omega+splitNatSub),Int.mul_le_mul (by omega+splitNatSub) (by omega+splitNatSub) (by omega+splitNatSub) (by omega+splitNatSub)⟩
   exact ⟨_,fun h=>zwx h2 h3 _ _ e (fun x=>zsc ⟨by omega+splitNatSub,by omega+splitNatSub⟩) rfl (zeu ⟨by omega+splitNatSub,by omega+splitNatSub⟩) h⟩
def cell (ns:List Int) (k:Int):Int:=if h:0≤k∧k≤100 then (zpc ns k h).choose else 0
theorem zjk (ns:List Int) (k:Int) (h0:0≤k) (h1:k≤100) (h:H3):f_law_cell [.scr ns,.int k] h= .ok (.v (.int (cell ns k))) h:=by
 unfold cell;rw [dif_pos ⟨h0,h1⟩];exact (zpc ns k ⟨h0,h1⟩).choose_spec h
theorem sz26:abc.length≤sizeLine:=by rw [show abc.length=26 from rfl];have:=yt;omega
noncomputable def figs:List Nat:=[48,49,50,51,52,53,54,55,56,57]
theorem zvx:("0123456789" :Str)=tx figs:=by decide+kernel
theorem z0a (s:S3) (h:H3):zi s h (.x (.str (tx abc))) (.x (.str "0123456789"))=some (.v (.str (tx abc9))):=by
 rw [zvx,zie (by rw [show abc.length=26 from rfl,show figs.length=10 from rfl];have:=yt;omega)];rfl
noncomputable def jc (c a:Int) (k j:Nat):Int:=c / (64+29*(j:Int))+(k:Int)*(if (j:Int)=a then 1 else 0)
def qj (c a:Int) (k j:Nat):Nat:=if (j:Int)=0 then ch (jc c a k j % 26) else ch (jc c a k j % 36)
section
def nB9:D3:=(sSet 9 (eOp zi (pE (eOp ya (pV 0) (pE (eOp zi (pE (eC (.int 64))) (pE (eOp yc (pE (eC (.int 29))) (pV 8))))))) (pE (eOp yc (pV 6) (pE (eB bInt (aCons (pE (eOp yO (pV 8) (pV 4))) aNil)))))))
def nB7:D3:=(sSet 7 (eOp zi (pV 7) (pE (eOp zr (pV 2) (pE (eOp zF (pV 9) (pE (eC (.int 26)))))))))
def nC7:D3:=(sSet 7 (eOp zi (pV 7) (pE (eOp zr (pE (eOp zi (pV 2) (pE (eC (.str ("0123456789" :Str)))))) (pE (eOp zF (pV 9) (pE (eC (.int 36)))))))))
def nI:D3:=sIf (tE (eOp yO (pV 8) (pE (eC (.int 0))))) nB7 nC7
variable (c m a z k:Int) (acc:Option Vl) (w:List Nat) (h:H3)
theorem zz9 (i:Int) (y9:Option Vl) (c1:CMul 29 i) (c2: ∀x,CMul k x) (c5:(0:Int) < 64+29*i) (c6:64+29*i < 1073741824) (hd:decide (i=a)=true):
  nB9 [some (.v (.int c)),some (.v (.int m)),some (.v (.str (tx abc))),some (.v (.int z)),some (.v (.int a)),acc,some (.v (.int k)),some (.v (.str (tx w))),some (.v (.int i)),y9] h= .nx [some (.v (.int c)),some (.v (.int m)),some (.v (.str (tx abc))),some (.v (.int z)),some (.v (.int a)),acc,some (.v (.int k)),some (.v (.str (tx w))),some (.v (.int i)),some (.v (.int (c / (64+29*i)+k*1)))] h:=by
 unfold nB9
 simp_arith [hd,c1,c2,c5,c6]
theorem zzy (i:Int) (y9:Option Vl) (c1:CMul 29 i) (c2: ∀x,CMul k x) (c5:(0:Int) < 64+29*i) (c6:64+29*i < 1073741824) (hd:decide (i=a)=false):
  nB9 [some (.v (.int c)),some (.v (.int m)),some (.v (.str (tx abc))),some (.v (.int z)),some (.v (.int a)),acc,some (.v (.int k)),some (.v (.str (tx w))),some (.v (.int i)),y9] h= .nx [some (.v (.int c)),some (.v (.int m)),some (.v (.str (tx abc))),some (.v (.int z)),some (.v (.int a)),acc,some (.v (.int k)),some (.v (.str (tx w))),some (.v (.int i)),some (.v (.int (c / (64+29*i)+k*0)))] h:=by
 unfold nB9
 simp_arith [hd,c1,c2,c5,c6]
theorem zv5 (x:Int) (y8:Option Vl) (b1: ∀x:Nat,w.length+[x].length≤sizeLine):nB7 [some (.v (.int c)),some (.v (.int m)),some (.v (.str (tx abc))),some (.v (.int z)),some (.v (.int a)),acc,some (.v (.int k)),some (.v (.str (tx w))),y8,some (.v (.int x))] h= .nx [some (.v (.int c)),some (.v (.int m)),some (.v (.str (tx abc))),some (.v (.int z)),some (.v (.int a)),acc,some (.v (.int k)),some (.v (.str (tx (w++[ch (x % 26)])))),y8,some (.v (.int x))] h:=by
 unfold nB7
 have b0:=sz26
 simp_arith [zpz,b0,zuo,zie (b1 _)]
theorem zxj (x:Int) (y8:Option Vl) (b1: ∀x:Nat,w.length+[x].length≤sizeLine):nC7 [some (.v (.int c)),some (.v (.int m)),some (.v (.str (tx abc))),some (.v (.int z)),some (.v (.int a)),acc,some (.v (.int k)),some (.v (.str (tx w))),y8,some (.v (.int x))] h= .nx [some (.v (.int c)),some (.v (.int m)),some (.v (.str (tx abc))),some (.v (.int z)),some (.v (.int a)),acc,some (.v (.int k)),some (.v (.str (tx (w++[ch (x % 36)])))),y8,some (.v (.int x))] h:=by
 unfold nC7
 have b9:abc9.length≤sizeLine:=sz36
 simp_arith [zpz,b9,z0a,zui,zie (b1 _)]
theorem nI_0 (x:Int) (b1: ∀x:Nat,w.length+[x].length≤sizeLine):nI [some (.v (.int c)),some (.v (.int m)),some (.v (.str (tx abc))),some (.v (.int z)),some (.v (.int a)),acc,some (.v (.int k)),some (.v (.str (tx w))),some (.v (.int 0)),some (.v (.int x))] h= .nx [some (.v (.int c)),some (.v (.int m)),some (.v (.str (tx abc))),some (.v (.int z)),some (.v (.int a)),acc,some (.v (.int k)),some (.v (.str (tx (w++[ch (x % 26)])))),some (.v (.int 0)),some (.v (.int x))] h:=by
 unfold nI
 have e:=zv5 c m a z k acc w h x (some (.v (.int 0))) b1
 simp_arith [e]
theorem nI_n (x i:Int) (hi: ¬i=0) (b1: ∀x:Nat,w.length+[x].length≤sizeLine):nI [some (.v (.int c)),some (.v (.int m)),some (.v (.str (tx abc))),some (.v (.int z)),some (.v (.int a)),acc,some (.v (.int k)),some (.v (.str (tx w))),some (.v (.int i)),some (.v (.int x))] h= .nx [some (.v (.int c)),some (.v (.int m)),some (.v (.str (tx abc))),some (.v (.int z)),some (.v (.int a)),acc,some (.v (.int k)),some (.v (.str (tx (w++[ch (x % 36)])))),some (.v (.int i)),some (.v (.int x))] h:=by
 unfold nI
 have e:=zxj c m a z k acc w h x (some (.v (.int i))) b1
 simp_arith [e,hi]
theorem zpp (hz:1≤z∧z≤8) (kk:Nat) (hk:kk≤100) (ek:k=(kk:Int)) (x8 x9:Option Vl):
  ∃y8 y9,zcg [some (.v (.int c)),some (.v (.int m)),some (.v (.str (tx abc))),some (.v (.int z)),some (.v (.int a)),acc,some (.v (.int k)),some (.v (.str (tx []))),x8,x9] h= .nx [some (.v (.int c)),some (.v (.int m)),some (.v (.str (tx abc))),some (.v (.int z)),some (.v (.int a)),acc,some (.v (.int k)),some (.v (.str (tx ((List.range z.toNat).map (qj c a kk))))),y8,y9] h:=by
 have e0:zcg=zo (iR1 (aCons (pV 3) aNil)) (gN 8) (sSeq nB9 nI):=rfl
 rw [e0]
 obtain ⟨s',e,y8,y9,rfl⟩:=zj4 (j:=z) (a:=aCons (pV 3) aNil) (s:=[some (.v (.int c)),some (.v (.int m)),some (.v (.str (tx abc))),some (.v (.int z)),some (.v (.int a)),acc,some (.v (.int k)),some (.v (.str (tx []))),x8,x9]) (h:=h) (g:=gN 8) (b:=sSeq nB9 nI) (by simp_arith []) (by omega+splitNatSub)
  (fun i s=> ∃y8 y9,s=[some (.v (.int c)),some (.v (.int m)),some (.v (.str (tx abc))),some (.v (.int z)),some (.v (.int a)),acc,some (.v (.int k)),some (.v (.str (tx ((List.range i).map (qj c a kk))))),y8,y9]) ⟨_,_,rfl⟩ (by
   rintro i s hi ⟨y8,y9,rfl⟩
   have h1:=yt
   have c1:CMul 29 (i:Int):=zeu ⟨by decide,by decide⟩
   have c2: ∀x,CMul k x:=fun x=>zeu ⟨by omega+splitNatSub,by omega+splitNatSub⟩
   have c5:(0:Int) < 64+29*(i:Int):=by omega+splitNatSub
   have c6:64+29*(i:Int) < 1073741824:=by omega+splitNatSub
   have b1: ∀x:Nat,((List.range i).map (qj c a kk)).length+[x].length≤sizeLine:=fun x=>by rw [List.length_map,List.length_range,List.length_singleton];omega+splitNatSub
   have e9:((List.range (i+1)).map (qj c a kk))=(List.range i).map (qj c a kk)++[qj c a kk i]:=by rw [List.range_succ,List.map_append];rfl
   obtain ⟨p,hp,e1⟩: ∃p,jc c a kk i=p∧nB9 [some (.v (.int c)),some (.v (.int m)),some (.v (.str (tx abc))),some (.v (.int z)),some (.v (.int a)),acc,some (.v (.int k)),some (.v (.str (tx ((List.range i).map (qj c a kk))))),some (.v (.int i)),y9] h= .nx [some (.v (.int c)),some (.v (.int m)),some (.v (.str (tx abc))),some (.v (.int z)),some (.v (.int a)),acc,some (.v (.int k)),some (.v (.str (tx ((List.range i).map (qj c a kk))))),some (.v (.int i)),some (.v (.int p))] h:=by
    cases hd:decide ((i:Int)=a) with
    | true=>exact ⟨_,by unfold jc;rw [if_pos (of_decide_eq_true hd),←ek],zz9 c m a z k acc _ h i y9 c1 c2 c5 c6 hd⟩
    | false=>exact ⟨_,by unfold jc;rw [if_neg (of_decide_eq_false hd),←ek],zzy c m a z k acc _ h i y9 c1 c2 c5 c6 hd⟩
   by_cases h0:(i:Int)=0
   ·have eg:qj c a kk i=ch (p % 26):=by unfold qj;rw [if_pos h0,hp]
    have e2:=nI_0 c m a z k acc ((List.range i).map (qj c a kk)) h p b1
    rw [←h0] at e2
    exact ⟨_,by (simp_arith [e1,e2]) <;> rfl,⟨_,_,by rw [e9,eg]⟩⟩
   ·have eg:qj c a kk i=ch (p % 36):=by unfold qj;rw [if_neg h0,hp]
    have e2:=nI_n c m a z k acc ((List.range i).map (qj c a kk)) h p i h0 b1
    exact ⟨_,by (simp_arith [e1,e2]) <;> rfl,⟨_,_,by rw [e9,eg]⟩⟩)
 exact ⟨y8,y9,e⟩
end
def nme (c:Int) (k:Nat):List Nat:=(List.range (1+c % 8).toNat).map (qj c (c / 8 % (1+c % 8)) k)
theorem zxu (c:Int) {i j:Nat} (h:i < j) (hj:j < 20):nme c i≠nme c j:=by
 intro e
 have hz:1≤1+c % 8∧1+c % 8≤8:=by omega
 obtain ⟨a,ha⟩:=Int.eq_ofNat_of_zero_le (Int.emod_nonneg (c / 8) (show 1+c % 8≠0 by omega))
 have hal:=Int.emod_lt_of_pos (c / 8) (show 0 < 1+c % 8 by omega)
 have hal2:a < (1+c % 8).toNat:=by omega
 have:=congrArg (fun l=>l[a]?) e
 unfold nme at this
 simp only [List.getElem?_map,List.getElem?_range hal2,Option.map_some,Option.some.injEq] at this
 unfold qj jc at this
 rw [ha] at this
 simp only [if_true,Int.mul_one] at this
 split at this
 ·have:=zqv this;omega
 ·have:=zvk this;omega
def zu5 (m:Int) (h:H3) (R:Res Vl):Prop:=∃ls:List Str,R= .ok (.m (.lst (ls.map .str))) h∧ls.length=m.toNat∧ls.Nodup∧∀l∈ls,l.length≤8
theorem znj (c m:Int) (hm:0≤m∧m < 20) (h:H3):zu5 m h (f_law_names [.int c,.int m] h):=by
 unfold f_law_names zen zdf
 refine qM rfl ?_
 refine zP (by rw [zxg];(simp_arith []) <;> rfl) ?_
 have c0:0 < 1+c % 8:=by omega
 refine zP (by (simp_arith []) <;> rfl) ?_
 refine zP (by (simp_arith [c0]) <;> rfl) ?_
 refine zP (by (simp_arith []) <;> rfl) ?_
 refine zpn (j:=m) (by simp_arith []) (by omega) (fun i s=> ∃x6 x7 x8 x9,s=[some (.v (.int c)),some (.v (.int m)),some (.v (.str (tx abc))),some (.v (.int (1+c % 8))),some (.v (.int (c / 8 % (1+c % 8)))),some (.m (.lst (((List.range i).map fun k=>tx (nme c k)).map .str))),x6,x7,x8,x9]) ⟨none,none,none,none,rfl⟩ ?_ ?_
 ·rintro i s hi ⟨x6,x7,x8,x9,rfl⟩
  have h1:=yt
  have c3:(List.range i).length < sizeLine:=by rw [List.length_range];omega
  obtain ⟨y8,y9,e⟩:=zpp c m (c / 8 % (1+c % 8)) (1+c % 8) i (some (.m (.lst (((List.range i).map fun k=>tx (nme c k)).map .str)))) h (by omega) i (by omega) rfl x8 x9
  refine ⟨_,by rw [zqr];(simp_arith [e,c3,List.length_map]) <;> rfl,⟨some (.v (.int i)),some (.v (.str (tx (nme c i)))),y8,y9,?_⟩⟩
  rw [List.range_succ,List.map_append,List.map_append];rfl
 ·rintro s ⟨x6,x7,x8,x9,rfl⟩
  refine ⟨(List.range m.toNat).map fun k=>tx (nme c k),by (simp_arith []) <;> rfl,by simp,nodup_range fun i j hij hj e=>zxu c hij (by omega) (zw2 e),?_⟩
  intro l hl
  obtain ⟨k,_,rfl⟩:=List.mem_map.1 hl
  rw [zn6,nme,List.length_map,List.length_range];omega
end My
namespace Cal
abbrev P:=Int×Int
noncomputable def at_:List P→Int→Int→Int
 | [],rest,_=>rest
 | p::r,rest,t=>if t < p.1 then p.2 else at_ r rest (t - p.1)
def tot:List P→Int
 | []=>0
 | p::r=>p.1+tot r
def Pos (rows:List P):Prop:=∀p∈rows,1≤p.1
theorem Pos.tail {p:P} {r:List P} (h:Pos (p::r)):Pos r:=fun x hx=>h x (List.mem_cons_of_mem _ hx)
theorem Pos.head {p:P} {r:List P} (h:Pos (p::r)):1≤p.1:=h p List.mem_cons_self
noncomputable def pk (rest:Int):Int→Int→List P→List P
 | a,c,[]=>if c=rest then [] else [(a,c)]
 | a,c,p::r=>if p.2=c then pk rest (a+p.1) c r else (a,c)::pk rest p.1 p.2 r
def kform (rest:Int):List P→List P
 | []=>[]
 | p::r=>pk rest p.1 p.2 r
noncomputable def nstep (acc:List P) (r:P):List P:=
 match acc.getLast? with
 | some l=>if l.2=r.2 then acc.dropLast++[(l.1+r.1,r.2)] else acc++[r]
 | none=>acc++[r]
theorem zm1 {acc:List P} {l:P} (h:acc.getLast? =some l) (r:P):nstep acc r=if l.2=r.2 then acc.dropLast++[(l.1+r.1,r.2)] else acc++[r]:=by
 unfold nstep;rw [h]
theorem nstep_snoc (i:List P) (l r:P):nstep (i++[l]) r=if l.2=r.2 then i++[(l.1+r.1,r.2)] else (i++[l])++[r]:=by
 rw [zm1 (l:=l) (by simp)]
 simp
noncomputable def drp (rest:Int) (t:List P):List P:=
 match t.getLast? with
 | some l=>if l.2=rest then t.dropLast else t
 | none=>t
theorem drp_last {rest:Int} {t:List P} {l:P} (h:t.getLast? =some l):drp rest t=if l.2=rest then t.dropLast else t:=by
 unfold drp;rw [h]
theorem drp_empty {rest:Int} {t:List P} (h:t=[]):drp rest t=t:=by rw [h];rfl
theorem zkc (rest:Int): ∀(r i:List P) (a c:Int),drp rest (r.foldl nstep (i++[(a,c)]))=i++pk rest a c r
 | [],i,a,c=>by
  rw [List.foldl_nil,drp_last (l:=(a,c)) (by simp)]
  unfold pk
  by_cases h:c=rest
  ·rw [if_pos h,if_pos h];simp
  ·rw [if_neg h,if_neg h]
 | p::r,i,a,c=>by
  rw [List.foldl_cons,nstep_snoc]
  unfold pk
  by_cases h:c=p.2
  ·rw [if_pos h,if_pos h.symm]
   have:=zkc rest r i (a+p.1) p.2
   rw [←h] at this ⊢
   exact this
  ·rw [if_neg h,if_neg (Ne.symm h)]
   have:=zkc rest r (i++[(a,c)]) p.1 p.2
   rw [this,List.append_assoc]
   rfl
theorem kept_eq (rest:Int) (rows:List P):drp rest (rows.foldl nstep [])=kform rest rows:=by
 cases rows with
 | nil=>rfl
 | cons p r=>exact zkc rest r [] p.1 p.2
theorem zuz (rest:Int): ∀(r:List P) (a c t:Int),Pos r→at_ (pk rest a c r) rest t=at_ ((a,c)::r) rest t
 | [],a,c,t,_=>by
  unfold pk
  by_cases h:c=rest
  ·rw [if_pos h]
   simp only [at_]
   rw [h];simp
  ·rw [if_neg h]
 | p::r,a,c,t,h=>by
  have h1:=h.head
  unfold pk
  by_cases e:p.2=c
  ·rw [if_pos e,zuz rest r (a+p.1) c t h.tail]
   simp only [at_]
   by_cases c1:t < a
   ·rw [if_pos c1,if_pos (by omega)]
   ·rw [if_neg c1]
    by_cases c2:t - a < p.1
    ·rw [if_pos c2,if_pos (by omega),e]
    ·rw [if_neg c2,if_neg (by omega)]
     congr 1;omega
  ·rw [if_neg e]
   simp only [at_]
   rw [zuz rest r p.1 p.2 (t - a) h.tail]
   simp only [at_]
theorem kform_at (rest:Int) (rows:List P) (t:Int) (h:Pos rows):at_ (kform rest rows) rest t=at_ rows rest t:=by
 cases rows with
 | nil=>rfl
 | cons p r=>exact zuz rest r p.1 p.2 t h.tail
theorem zhp: ∀(a b:List P),tot (a++b)=tot a+tot b
 | [],b=>by simp [tot]
 | p::a,b=>by simp only [List.cons_append,tot];rw [zhp a b];omega
theorem tot_snoc (a:List P) (p:P):tot (a++[p])=tot a+p.1:=by
 rw [zhp];simp [tot]
end Cal
namespace L3
open PySem L2
theorem zze {Q:Res Vl→Prop} {ok:H3→Prop} {g:G3} {b r:D3} {α:Type} {enc:α→V3} {l:List α} (I:Nat→S3→H3→Prop) (hok: ∀i s h,I i s h→ok h)
  (step: ∀(i:Nat) a s h,l[i]? =some a→I i s h→(∃s2 h2,(gb g b (enc a) s h= .nx s2 h2∨gb g b (enc a) s h= .ct s2 h2)∧I (i+1) s2 h2)∨(∃v h2,gb g b (enc a) s h= .rt v h2∧Q (.ok v h2))∨∃s2 h2,gb g b (enc a) s h= .bk s2 h2∧Q ((r s2 h2).res))
  (k: ∀s' h',I l.length s' h'→Q ((r s' h').res)): ∀(n i:Nat) (s:S3) (h:H3),l.length - i=n→i≤l.length→I i s h→Q ((match zK ok g b ((l.drop i).map enc) s h with | .nx s h=>r s h | o=>o).res):=by
 intro n
 induction n with
 | zero=>
  intro i s h hn hi hI
  have e:i=l.length:=by omega
  subst e
  rw [List.drop_length,List.map_nil]
  unfold zK
  rw [if_pos (hok _ _ _ hI)]
  exact k s h hI
 | succ n ih=>
  intro i s h hn hi hI
  have hil:i < l.length:=by omega
  rw [zd0 (zy hil),List.map_cons]
  unfold zK
  rw [if_pos (hok _ _ _ hI)]
  have st:=step i l[i] s h (zy hil) hI
  unfold gb at st
  cases q:g (enc l[i]) s with
  | none=>simp only [q] at st;rcases st with ⟨_,_,z | z,_⟩ | ⟨_,_,z,_⟩ | ⟨_,_,z,_⟩ <;> cases z
  | some s1=>
   simp only [q] at st ⊢
   rcases st with ⟨s2,h2,z | z,hI2⟩ | ⟨v,h2,z,hq⟩ | ⟨s2,h2,z,hq⟩
   ·rw [z];exact ih (i+1) s2 h2 (by omega) hil hI2
   ·rw [z];exact ih (i+1) s2 h2 (by omega) hil hI2
   ·rw [z];exact hq
   ·rw [z];exact hq
theorem it_E {Q:Res Vl→Prop} {α:Type} {it:I3} {g:G3} {b r:D3} {s:S3} {h:H3} {its:List V3} {ok:H3→Prop} {enc:α→V3} {l:List α} (ei:it s h= .ok ⟨its,l.map enc,ok⟩ h)
  (I:Nat→S3→H3→Prop) (hok: ∀i s h,I i s h→ok h) (h0:I 0 s h)
  (step: ∀(i:Nat) a s h,l[i]? =some a→I i s h→(∃s2 h2,(gb g b (enc a) s h= .nx s2 h2∨gb g b (enc a) s h= .ct s2 h2)∧I (i+1) s2 h2)∨(∃v h2,gb g b (enc a) s h= .rt v h2∧Q (.ok v h2))∨∃s2 h2,gb g b (enc a) s h= .bk s2 h2∧Q ((r s2 h2).res))
  (k: ∀s' h',I l.length s' h'→Q ((r s' h').res)):Q ((sSeq (zo it g b) r s h).res):=by
 have:=zze (Q:=Q) (r:=r) I hok step k _ 0 s h rfl (Nat.zero_le _) h0
 unfold sSeq zo
 simp only [ei,Res.bindS]
 rw [List.drop_zero] at this
 exact this
section
variable {α:Type} [DecidableEq α]
theorem zly (k j:α) (y:V3): ∀kvs:List (α×V3),zw (kvs.map fun kv=>if kv.1=k then (kv.1,y) else kv) j=if j=k then (zw kvs k).map (fun _=>y) else zw kvs j
 | []=>by simp [zw]
 | (a,x)::r=>by
  have ih:=zly k j y r
  unfold zw at ih ⊢
  simp only [List.map_cons,List.find?_cons]
  by_cases h1:a=k
  ·subst h1
   by_cases h2:j=a
   ·subst h2;simp
   ·have h3: ¬a=j:=fun z=>h2 z.symm
    simp only [if_pos,h3,h2,decide_false,if_false] at ih ⊢
    exact ih
  ·by_cases h2:a=j
   ·subst h2;simp [h1]
   ·simp only [h1,h2,if_false,decide_false];exact ih
theorem zfv (kvs:List (α×V3)) (k j:α) (y:V3):zw (put3 kvs k y) j=if j=k then some y else zw kvs j:=by
 unfold put3
 by_cases ha:(kvs.any fun kv=>decide (kv.1=k))=true
 ·rw [if_pos ha,zly]
  by_cases hj:j=k
  ·rw [if_pos hj,if_pos hj]
   have:(zw kvs k).isSome=true:=by
    unfold zw
    rw [Option.isSome_map,List.find?_isSome]
    simpa using ha
   obtain ⟨z,hz⟩:=Option.isSome_iff_exists.1 this
   rw [hz];rfl
  ·rw [if_neg hj,if_neg hj]
 ·rw [if_neg ha]
  have hn:zw kvs k=none:=by
   unfold zw
   rw [Option.map_eq_none_iff,List.find?_eq_none]
   intro x hx z
   exact ha (List.any_eq_true.2 ⟨x,hx,z⟩)
  unfold zw at hn ⊢
  rw [List.find?_append]
  by_cases h2:j=k
  ·subst h2
   have:kvs.find? (fun kv=>decide (kv.1=j))=none:=by simpa using hn
   rw [this];simp
  ·have:([(k,y)]:List (α×V3)).find? (fun kv=>decide (kv.1=j))=none:=by
    simp;exact fun z=>h2 z.symm
   rw [this,if_neg h2];simp
theorem zfx (kvs:List (α×V3)) (k:α) (y:V3):(put3 kvs k y).length≤kvs.length+1:=by
 unfold put3;split <;> simp
structure Cnt (kvs:List (α×V3)) (L:List α):Prop where
 val: ∀k,zw kvs k=if L.count k=0 then none else some (.int (L.count k))
 len:kvs.length≤L.length
theorem Cnt.nil:Cnt ([]:List (α×V3)) []:=⟨fun k=>by simp [zw],Nat.le_refl _⟩
theorem Cnt.getD {kvs:List (α×V3)} {L:List α} (c:Cnt kvs L) (k:α):(zw kvs k).getD (.int 0)= .int (L.count k):=by
 rw [c.val];split
 ·rename_i e;rw [e];rfl
 ·rfl
theorem Cnt.isSome {kvs:List (α×V3)} {L:List α} (c:Cnt kvs L) (k:α):(zw kvs k).isSome=decide (0 < L.count k):=by
 rw [c.val];split
 ·rename_i e;rw [e];rfl
 ·rename_i e;rw [Option.isSome_some,decide_eq_true (by omega)]
theorem Cnt.put {kvs:List (α×V3)} {L:List α} (c:Cnt kvs L) (k:α):Cnt (put3 kvs k (.int (L.count k+1))) (L++[k]):=⟨fun j=>by
 rw [zfv,List.count_append,List.count_singleton]
 by_cases h:j=k
 ·subst h;simp
 ·have h2: ¬(k==j)=true:=by simpa using fun z=>h z.symm
  rw [if_neg h,if_neg h2,c.val];rfl,by
 have:=zfx kvs k (.int (L.count k+1))
 have:=c.len
 rw [List.length_append,List.length_singleton];omega⟩
end
end L3
namespace My
open PySem L2 L3
structure RwB (rows:List (Int×Int)) (rest:Int):Prop where
 len:rows.length≤16
 one: ∀p∈rows,1≤p.1∧p.1≤1000000∧0≤p.2∧p.2≤16
 rest:1≤rest∧rest≤16
theorem nb2:(Str.ofString "stretches" =Str.ofString "beyond")=False:=eq_false (by decide+kernel)
abbrev calV (rows:List (Int×Int)) (rest:Int):V3:= .obj "Calendar" [("stretches",.lst (rows.map zm)),("beyond",.int rest)]
theorem zhw (a:Int) (h:H3):f_is_whole [.int a] h= .ok (.v (.bl true)) h:=by
 simp_arith [f_is_whole,zfj]
theorem zbi {a b c:Int} (h1:b≤a) (h2:a≤c) (h:H3):f_is_whole_between [.int a,.int b,.int c] h= .ok (.v (.bl true)) h:=by
 simp_arith [f_is_whole_between,zb6,zhw,h1,h2]
theorem zfu {a:Int} (h1:0≤a) (h2:a≤16) (h:H3):f_is_machines [.int a] h= .ok (.v (.bl true)) h:=by
 simp_arith [f_is_machines,zdk,zbi h1 h2]
theorem zjw {a:Int} (h1:1≤a) (h2:a≤16) (h:H3):f_is_rest [.int a] h= .ok (.v (.bl true)) h:=by
 simp_arith [f_is_rest,zga,zbi h1 h2]
theorem zd8 {p:Int×Int} (h1:1≤p.1∧p.1≤1000000∧0≤p.2∧p.2≤16) (h:H3):f_is_calendar_row [zm p] h= .ok (.v (.bl true)) h:=by
 simp_arith [f_is_calendar_row,zcc,zbi h1.1 h1.2.1,zfu h1.2.2.1 h1.2.2.2]
theorem zdp {rows:List (Int×Int)} {rest:Int} (hr:RwB rows rest) (h:H3):f_are_calendar_rows [.lst (rows.map zm)] h= .ok (.v (.bl true)) h:=by
 have hc:za5 [some (.v (.lst (rows.map zm)))] h= .ok (.m (.lst ((rows.map fun _=>true).map .bl))) h:=by
  unfold za5
  rw [List.map_map]
  refine zc9 (x:= .lst (rows.map zm)) (enc:=zm) (fun s=> ∃a,s=[a]) _ (by simp_arith []) rfl (by have:=hr.len;omega) ⟨none,rfl⟩ ?_
  rintro p s hp ⟨a,rfl⟩
  exact ⟨_,_,by (simp_arith []) <;> rfl,⟨_,rfl⟩,by (simp_arith [zd8 (hr.one p hp)]) <;> rfl,rfl⟩
 have hl: ¬((16:Int) < (rows.length:Int)):=by have:=hr.len;omega
 have ha:(rows.map fun _=>true).all id=true:=by simp
 simp_arith [f_are_calendar_rows,zbp,hc,List.length_map,hl,zvw,ha]
theorem zgq (rows:List (Int×Int)) (hl:rows.length≤1000) (h:H3):f_neighbours_as_one [.lst (rows.map zm)] h= .ok (.m (.lst ((rows.foldl Cal.nstep []).map zm))) h:=by
 show Is h _ _
 unfold f_neighbours_as_one zbt zbd
 refine qM rfl ?_
 refine zP (by (simp_arith []) <;> rfl) ?_
 refine zf5 (x:= .lst (rows.map zm)) (l:=rows) (enc:=zm) (by simp_arith []) rfl (fun i s=> ∃acc x2 x3,s=[some (.v (.lst (rows.map zm))),some (.m (.lst (acc.map zm))),x2,x3]∧acc.length≤i∧(rows.drop i).foldl Cal.nstep acc=rows.foldl Cal.nstep []) ⟨[],none,none,rfl,by simp,by simp⟩ ?_ ?_
 ·rintro i p s hi ⟨acc,x2,x3,rfl,ha,hI⟩
  rw [zd0 hi,List.foldl_cons] at hI
  have hil:i < rows.length:=(List.getElem?_eq_some_iff.1 hi).1
  have c3:acc.length < sizeLine:=by have:=yt;omega
  rcases List.eq_nil_or_concat acc with rfl | ⟨ini,q,rfl⟩
  ·refine ⟨_,by (simp_arith [zf7,List.isEmpty_nil]) <;> rfl,⟨[(p.1,p.2)],_,_,rfl,by simp,?_⟩⟩
   rw [←hI];rfl
  ·rw [List.concat_eq_append,Cal.nstep_snoc] at hI
   rw [List.concat_eq_append] at c3 ha ⊢
   rw [List.map_append,List.map_cons,List.map_nil]
   rw [List.length_append,List.length_singleton] at ha
   have e1: ∀(h:H3) (x2 x3:Option Vl),zr [some (.v (.lst (rows.map zm))),some (.m (.lst (ini.map zm++[zm q]))),x2,x3] h (.s 1) (.x (.int (-1)))=some (.v (zm q)):=fun h x2 x3=>zs8 rfl
   have c4:ini.length+1 < sizeLine:=by simpa using c3
   have ne:(ini.map zm++[zm q]).isEmpty=false:=by simp
   have e2:qf (ini.length+1) (-1)=some ini.length:=by
    unfold qf
    rw [if_neg (by decide),if_pos (by omega)]
    congr 1;omega
   by_cases hq:q.2=p.2
   ·rw [if_pos hq] at hI
    refine ⟨_,by (simp_arith [ne,e1,hq,zgl,List.length_append,List.length_map,e2]) <;> rfl,⟨ini++[(q.1+p.1,p.2)],some (.v (.int p.1)),some (.v (.int p.2)),?_,by simpa using by omega,hI⟩⟩
    rw [List.map_append,List.map_cons,List.map_nil,zgz (by rw [List.length_map])]
   ·rw [if_neg hq] at hI
    refine ⟨_,by (simp_arith [ne,e1,hq,c4,List.length_append,List.length_map]) <;> rfl,⟨(ini++[q])++[p],some (.v (.int p.1)),some (.v (.int p.2)),?_,by simpa using by omega,hI⟩⟩
    rw [List.map_append,List.map_append,List.map_cons,List.map_nil,List.map_cons,List.map_nil]
 ·rintro s ⟨acc,x2,x3,rfl,ha,hI⟩
  rw [List.drop_length,List.foldl_nil] at hI
  subst hI
  unfold Is
  (simp_arith []) <;> rfl
theorem zg8 (rows:List (Int×Int)) (rest:Int) (hl:rows.length≤1000) (h:H3):f_kept_rows [.lst (rows.map zm),.int rest] h= .ok (.m (.lst ((Cal.kform rest rows).map zm))) h:=by
 rw [←Cal.kept_eq]
 generalize hm:rows.foldl Cal.nstep []=t
 have e0:=zgq rows hl h
 rw [hm] at e0
 rcases List.eq_nil_or_concat t with rfl | ⟨ini,q,rfl⟩
 ·rw [Cal.drp_empty rfl]
  (simp_arith [f_kept_rows,zcn,e0,zf7,List.isEmpty_nil])
 ·rw [List.concat_eq_append] at e0 ⊢
  rw [Cal.drp_last (l:=q) (by simp),List.dropLast_concat]
  have ne:(ini.map zm++[zm q]).isEmpty=false:=by simp
  have e1: ∀(h:H3) (x0 x1:Option Vl),zr [x0,x1,some (.m (.lst (ini.map zm++[zm q])))] h (.s 2) (.x (.int (-1)))=some (.v (zm q)):=fun h x0 x1=>zs8 rfl
  rw [List.map_append,List.map_cons,List.map_nil] at e0
  have e3:mPop (ini.map zm++[zm q]) []=some (ini.map zm,zm q):=by
   unfold mPop;simp
  by_cases hq:q.2=rest
  ·rw [if_pos hq]
   (simp_arith [f_kept_rows,zcn,e0,ne,e1,hq,e3])
  ·rw [if_neg hq]
   (simp_arith [f_kept_rows,zcn,e0,ne,e1,hq,List.map_append])
theorem zqn {rows:List (Int×Int)} {rest:Int} (hr:RwB rows rest) (h:H3):f_Calendar_init [.loc h.length,.lst (rows.map zm),.int rest] (h++[.ins "Calendar" []])= .ok (.v .non) (h++[.ins "Calendar" [("stretches",.lst ((Cal.kform rest rows).map zm)),("beyond",.int rest)]]):=by
 have hg: ∀c,(h++[C3.ins "Calendar" c])[h.length]? =some (.ins "Calendar" c):=fun c=>by simp
 have hs: ∀c d,(h++[C3.ins "Calendar" c]).set h.length d=h++[d]:=fun c d=>zgz rfl
 simp_arith [f_Calendar_init,zcu,zdp hr,zjw hr.rest.1 hr.rest.2,zqj,zg8 rows rest (by have:=hr.len;omega),hg,hs,znk,List.mem_singleton,nb2]
theorem zkz {p:Int×Int} {r:List (Int×Int)} {rest t:Int}:Cal.at_ (p::r) rest t=if t < p.1 then p.2 else Cal.at_ r rest (t - p.1):=rfl
theorem zy0 {rest t:Int}:Cal.at_ [] rest t=rest:=rfl
theorem zfc (rows:List (Int×Int)) (rest t:Int) (h:H3):f_Calendar_at [calV rows rest,.int t] h= .ok (.v (.int (Cal.at_ rows rest t))) h:=by
 show Is h _ _
 unfold f_Calendar_at zdi zcm
 refine qM rfl ?_
 refine zP (by (simp_arith []) <;> rfl) ?_
 refine it_E (l:=rows) (enc:=zm) (its:=[.lst (rows.map zm)]) (ok:=fun _=>True) (by (simp_arith [iL,yj]) <;> rfl) (fun i s h'=>h'=h∧∃e y3 y4,s=[some (.v (calV rows rest)),some (.v (.int t)),some (.v (.int e)),y3,y4]∧Cal.at_ (rows.drop i) rest (t - e)=Cal.at_ rows rest t) (fun _ _ _ _=>trivial) ⟨rfl,0,none,none,rfl,by rw [List.drop_zero,Int.sub_zero]⟩ ?_ ?_
 ·rintro i p s h' hi ⟨rfl,e,y3,y4,rfl,hI⟩
  rw [zd0 hi,zkz] at hI
  by_cases hq:t < e+p.1
  ·rw [if_pos (by omega)] at hI
   refine .inr (.inl ⟨.v (.int p.2),_,by (simp_arith [hq]) <;> rfl,?_⟩)
   unfold Is;rw [hI]
  ·rw [if_neg (by omega)] at hI
   refine .inl ⟨_,_,.inl (by (simp_arith [hq]) <;> rfl),rfl,e+p.1,_,_,rfl,?_⟩
   rw [←hI];congr 1;omega
 ·rintro s h' ⟨rfl,e,y3,y4,rfl,hI⟩
  rw [List.drop_length,zy0] at hI
  unfold Is;rw [←hI]
  (simp_arith []) <;> rfl
abbrev Rw:=Int×Int×Str
noncomputable abbrev ze (r:Rw):V3:= .tup [.int r.1,.int r.2.1,.str r.2.2]
structure Jb where
 n:Str
 f:Int
 l:Int
 w:Int
 b:Int
noncomputable abbrev Jb.enc (j:Jb):V3:= .tup [.str j.n,.int j.f,.int j.l,.int j.w,.int j.b]
noncomputable def own (ah:List Rw) (z:Str):List Rw:=ah.filter fun r=>decide (r.2.2=z)
def qx (ah:List Rw) (t:Int) (z:Str):List Rw:=(own ah z).filter fun r=>decide (r.1=t)
def tkn (ah:List Rw) (t m:Int):Bool:=ah.any fun r=>decide (r.1=t) && decide (r.2.1=m)
def wd (o:Option Jb) (a:Int) (ah:List Rw) (r:Rw):V3:=
 match o with
 | none=> .str "name"
 | some j=>if j.f≤r.1∧r.1≤j.l then if 0≤r.2.1∧r.2.1 < a then if tkn ah r.1 r.2.1=true then .str "taken" else if j.b≤((qx ah r.1 r.2.2).length:Int) then .str "breadth" else if j.w≤((own ah r.2.2).length:Int) then .str "work" else .non else .str "machine" else .str "window"
def oj:Option Jb→V3
 | none=> .non
 | some j=>j.enc
noncomputable def keys (r:Rw):List MK:=[.tup [.inl r.1,.inl r.2.1],.tup [.inl r.1,.inr r.2.2],.one (.inr r.2.2)]
theorem zv2 (t m:Int): ∀ah:List Rw,decide (0 < (ah.flatMap keys).count (MK.tup [.inl t,.inl m]))=tkn ah t m
 | []=>rfl
 | r::ah=>by
  have ih:=zv2 t m ah
  unfold tkn at ih ⊢
  rw [List.flatMap_cons,List.count_append,List.any_cons,←ih]
  have e:(keys r).count (MK.tup [.inl t,.inl m])=if r.1=t∧r.2.1=m then 1 else 0:=by
   unfold keys
   simp only [List.count_cons,List.count_nil,beq_iff_eq,MK.tup.injEq,List.cons.injEq,Sum.inl.injEq,and_true,reduceCtorEq,if_false,and_false,false_and]
   split <;> simp_all
  rw [e]
  by_cases h:r.1=t∧r.2.1=m
  ·rw [if_pos h,h.1,h.2];simp;omega
  ·rw [if_neg h]
   have:(decide (r.1=t) && decide (r.2.1=m))=false:=by simpa using h
   rw [this];simp
theorem zxh (t:Int) (z:Str): ∀ah:List Rw,(ah.flatMap keys).count (MK.tup [.inl t,.inr z])=(qx ah t z).length
 | []=>rfl
 | r::ah=>by
  have ih:=zxh t z ah
  unfold qx own at ih ⊢
  rw [List.flatMap_cons,List.count_append,ih]
  have e:(keys r).count (MK.tup [.inl t,.inr z])=if r.1=t∧r.2.2=z then 1 else 0:=by
   unfold keys
   simp only [List.count_cons,List.count_nil,beq_iff_eq,MK.tup.injEq,List.cons.injEq,Sum.inl.injEq,Sum.inr.injEq,and_true,reduceCtorEq,if_false,and_false,false_and]
   split <;> simp_all
  rw [e]
  by_cases h:r.2.2=z
  ·by_cases h2:r.1=t
   ·simp [h,h2];omega
   ·simp [h,h2]
  ·simp [h]
theorem zy3 (z:Str): ∀ah:List Rw,(ah.flatMap keys).count (MK.one (.inr z))=(own ah z).length
 | []=>rfl
 | r::ah=>by
  have ih:=zy3 z ah
  unfold own at ih ⊢
  rw [List.flatMap_cons,List.count_append,ih]
  have e:(keys r).count (MK.one (.inr z))=if r.2.2=z then 1 else 0:=by
   unfold keys
   simp only [List.count_cons,List.count_nil,beq_iff_eq,MK.one.injEq,Sum.inr.injEq,reduceCtorEq,if_false]
   split <;> simp_all
  rw [e]
  by_cases h:r.2.2=z
  ·simp [h];omega
  ·simp [h]
section
variable {ah:List Rw} {kvs:List (MK×V3)} {n:Nat} {h:H3}
theorem g_in (c:Cnt kvs (ah.flatMap keys)) (hn:h[n]? =some (.dT kvs)) (s:S3) (t m:Int):oDIn false s h (.x (.tup [.int t,.int m])) (.x (.loc n))=some (.v (.bl (tkn ah t m))):=by
 unfold oDIn yp
 simp only [hn,C3.dc,Dc.get,qu,zD,yx,Option.map_some,c.isSome,zv2,if_false,Bool.false_eq_true]
theorem g_t (c:Cnt kvs (ah.flatMap keys)) (hn:h[n]? =some (.dT kvs)) {s:S3} {d k z:P3} {t:Int} {y:Str} (ed:d s h= .ok (.x (.loc n)) h) (ek:k s h= .ok (.x (.tup [.int t,.str y])) h) (ez:z s h= .ok (.x (.int 0)) h):qG d k z s h= .ok (.v (.int (qx ah t y).length)) h:=by
 unfold qG yp
 simp only [ed,ek,ez,Res.bind,hn,C3.dc,Dc.get,qu,zD,yx,Option.map_some,c.getD,zxh]
theorem g_n (c:Cnt kvs (ah.flatMap keys)) (hn:h[n]? =some (.dT kvs)) {s:S3} {d k z:P3} {y:Str} (ed:d s h= .ok (.x (.loc n)) h) (ek:k s h= .ok (.x (.str y)) h) (ez:z s h= .ok (.x (.int 0)) h):qG d k z s h= .ok (.v (.int (own ah y).length)) h:=by
 unfold qG yp
 simp only [ed,ek,ez,Res.bind,hn,C3.dc,Dc.get,qu,zD,yx,Option.map_some,c.getD,zy3]
end
theorem zm5 {rows:List (Int×Int)} {rest:Int}:List.lookup (Str.ofString "at") [((Str.ofString "stretches"),V3.lst (rows.map zm)),((Str.ofString "beyond"),V3.int rest)]=none:=by
 have h1:(Str.ofString "at" ==Str.ofString "stretches")=false:=by decide+kernel
 have h2:(Str.ofString "at" ==Str.ofString "beyond")=false:=by decide+kernel
 simp only [List.lookup,h1,h2]
theorem znp {ah:List Rw} {kvs:List (MK×V3)} {n:Nat} {h:H3} (c:Cnt kvs (ah.flatMap keys)) (hn:h[n]? =some (.dT kvs)) (rows:List (Int×Int)) (rest:Int) (o:Option Jb) (r:Rw):
  f_fault_word [ze r,oj o,calV rows rest,.loc n] h= .ok (.v (wd o (Cal.at_ rows rest r.1) ah r)) h:=by
 have h1:=g_in c hn
 cases o with
 | none=>
  unfold oj wd
  (simp_arith [f_fault_word,ja]) <;> rfl
 | some j=>
  unfold oj wd
  simp only []
  by_cases q1:j.f≤r.1
  ·by_cases q2:r.1≤j.l
   ·rw [if_pos ⟨q1,q2⟩]
    by_cases q3:0≤r.2.1
    ·by_cases q4:r.2.1 < Cal.at_ rows rest r.1
     ·rw [if_pos ⟨q3,q4⟩]
      by_cases q5:tkn ah r.1 r.2.1=true
      ·rw [if_pos q5]
       (simp_arith [f_fault_word,ja,q1,q2,q3,q4,q5,h1,zix,qT,zm5,zfc]) <;> rfl
      ·rw [if_neg q5]
       have q5:tkn ah r.1 r.2.1=false:=by simpa using q5
       have e2: ∀s:S3,s[3]? =some (some (.v (.loc n)))→s[4]? =some (some (.v (.int r.1)))→s[6]? =some (some (.v (.str r.2.2)))→qG (pV 3) (pE (eTup (aCons (pV 4) (aCons (pV 6) aNil)))) (pE (eC (.int 0))) s h= .ok (.v (.int (qx ah r.1 r.2.2).length)) h:=fun s a b d=>g_t c hn (by (simp_arith [a]) <;> rfl) (by (simp_arith [b,d]) <;> rfl) (by (simp_arith []) <;> rfl)
       have e3: ∀s:S3,s[3]? =some (some (.v (.loc n)))→s[6]? =some (some (.v (.str r.2.2)))→qG (pV 3) (pV 6) (pE (eC (.int 0))) s h= .ok (.v (.int (own ah r.2.2).length)) h:=fun s a d=>g_n c hn (by (simp_arith [a]) <;> rfl) (by (simp_arith [d]) <;> rfl) (by (simp_arith []) <;> rfl)
       by_cases q6:j.b≤((qx ah r.1 r.2.2).length:Int)
       ·rw [if_pos q6]
        (simp_arith [f_fault_word,ja,q1,q2,q3,q4,q5,q6,h1,e2,e3,zix,qT,zm5,zfc]) <;> rfl
       ·rw [if_neg q6]
        by_cases q7:j.w≤((own ah r.2.2).length:Int)
        ·rw [if_pos q7]
         (simp_arith [f_fault_word,ja,q1,q2,q3,q4,q5,q6,q7,h1,e2,e3,zix,qT,zm5,zfc]) <;> rfl
        ·rw [if_neg q7]
         (simp_arith [f_fault_word,ja,q1,q2,q3,q4,q5,q6,q7,h1,e2,e3,zix,qT,zm5,zfc]) <;> rfl
     ·rw [if_neg fun z=>q4 z.2]
      (simp_arith [f_fault_word,ja,q1,q2,q3,q4,zix,qT,zm5,zfc]) <;> rfl
    ·rw [if_neg fun z=>q3 z.1]
     (simp_arith [f_fault_word,ja,q1,q2,q3,zix,qT,zm5,zfc]) <;> rfl
   ·rw [if_neg fun z=>q2 z.2]
    (simp_arith [f_fault_word,ja,q1,q2]) <;> rfl
  ·rw [if_neg fun z=>q1 z.1]
   (simp_arith [f_fault_word,ja,q1]) <;> rfl
def kxE:MK→V3
 | .one k=>kV3 k
 | .tup ks=> .tup (ks.map kV3)
theorem z0d: ∀k:zq,yx (kV3 k)=some k
 | .inl _=>rfl
 | .inr _=>rfl
theorem kx_k: ∀k:MK,qu (kxE k)=some k
 | .one (.inl _)=>rfl
 | .one (.inr _)=>rfl
 | .tup ks=>by
  unfold kxE qu
  simp only [zet (f:=yx) (g:=kV3) (k:=id) (fun k=>z0d k) ks,List.map_id,Option.map_some]
def zzi (n:Nat) (L:List MK) (r:Rw) (h:H3) (R:Res Vl):Prop:=∃kvs',R= .ok (.v .non) (h.set n (.dT kvs'))∧Cnt kvs' (L++keys r)
theorem zm9 {L:List MK} {kvs:List (MK×V3)} {n:Nat} {h:H3} (c:Cnt kvs L) (hn:h[n]? =some (.dT kvs)) (hL:L.length≤10000) (r:Rw):zzi n L r h (f_count_row [ze r,.loc n] h):=by
 unfold f_count_row zej
 refine qM rfl ?_
 refine zP (by (simp_arith []) <;> rfl) ?_
 have hlt:n < h.length:=(List.getElem?_eq_some_iff.1 hn).1
 unfold zdn
 obtain ⟨s',h',e,kvs1,y5,rfl,rfl,c1⟩:=zp9 (it:=iL (pE (eLst (aCons (pE (eTup (aCons (pV 2) (aCons (pV 3) aNil)))) (aCons (pE (eTup (aCons (pV 2) (aCons (pV 4) aNil)))) (aCons (pV 4) aNil)))))) (g:=gN 5) (b:=qS (pV 1) (pV 5) (eOp zi (pE (qG (pV 1) (pV 5) (pE (eC (.int 0))))) (pE (eC (.int 1))))) (s:=[some (.v (ze r)),some (.v (.loc n)),some (.v (.int r.1)),some (.v (.int r.2.1)),some (.v (.str r.2.2)),none]) (h:=h) (l:=keys r) (enc:=kxE) (its:=[.lst ((keys r).map kxE)]) (ok:=fun _=>True) (by (simp_arith [iL,yj]) <;> rfl)
  (fun i s h'=> ∃kvs1 y5,s=[some (.v (ze r)),some (.v (.loc n)),some (.v (.int r.1)),some (.v (.int r.2.1)),some (.v (.str r.2.2)),y5]∧h'=h.set n (.dT kvs1)∧Cnt kvs1 (L++(keys r).take i)) (fun _ _ _ _=>trivial)
  ⟨kvs,none,rfl,by rw [←(List.getElem?_eq_some_iff.1 hn).2,List.set_getElem_self],by rw [List.take_zero,List.append_nil];exact c⟩ (by
   rintro i k s h' hi ⟨kvs1,y5,rfl,rfl,c1⟩
   have g0:(h.set n (.dT kvs1))[n]? =some (.dT kvs1):=List.getElem?_set_self hlt
   have g1: ∀x y,(h.set n x).set n y=h.set n y:=fun x y=>List.set_set ..
   have hi3:i < 3:=by have:=(List.getElem?_eq_some_iff.1 hi).1;simpa [keys] using this
   have hl:kvs1.length < sizeLine:=by
    have h1:=c1.len
    rw [List.length_append,List.length_take] at h1
    have:=yt;omega
   have hg:=c1.getD k
   have ek:=kx_k k
   refine ⟨_,_,by (simp_arith [qS,qG,yp,g0,C3.dc,Dc.get,Dc.put,Dc.c,Dc.len,ek,Option.map_some,hg,hl,g1]) <;> rfl,⟨_,_,rfl,rfl,?_⟩⟩
   rw [zb1 hi,←List.append_assoc]
   exact c1.put k)
 refine ⟨kvs1,by rw [e];rfl,?_⟩
 rw [List.take_length] at c1
 exact c1
def fj (js:List Jb) (z:Str):Option Jb:=(js.filter fun j=>decide (j.n=z)).getLast?
theorem zn4 (js:List Jb) (j:Jb) (z:Str):fj (js++[j]) z=if z=j.n then some j else fj js z:=by
 unfold fj
 rw [List.filter_append]
 by_cases h:j.n=z
 ·rw [if_pos h.symm];simp [h]
 ·rw [if_neg fun e=>h e.symm];simp [h]
structure Bn (kvs:List (MK×V3)) (js:List Jb):Prop where
 val: ∀z,zw kvs (.one (.inr z))=(fj js z).map Jb.enc
 len:kvs.length≤js.length
theorem zsm (o:Option Jb):(o.map Jb.enc).getD .non=oj o:=by cases o <;> rfl
noncomputable def qK (js:List Jb) (A:Int→Int) (rs:List Rw):Nat→List (Nat×Str)
 | 0=>[]
 | i+1=>qK js A rs i++(match rs[i]? with
  | none=>[]
  | some r=>match wd (fj js r.2.2) (A r.1) (rs.take i) r with
   | .str z=>[(i,z)]
   | _=>[])
theorem zn9 (js:List Jb) (A:Int→Int) (rs:List Rw): ∀i,(qK js A rs i).length≤i
 | 0=>Nat.le_refl _
 | i+1=>by
  have ih:=zn9 js A rs i
  unfold qK
  rw [List.length_append]
  cases rs[i]? with
  | none=>simp;omega
  | some r=>simp only [];split <;> simp <;> omega
noncomputable abbrev encD (p:Nat×Str):V3:= .tup [.int p.1,.str p.2]
theorem zv7 (o:Option Jb) (a:Int) (ah:List Rw) (r:Rw):wd o a ah r= .non∨∃z,wd o a ah r= .str z:=by
 unfold wd
 cases o with
 | none=>exact .inr ⟨_,rfl⟩
 | some j=>
  simp only []
  split
  ·split
   ·split
    ·exact .inr ⟨_,rfl⟩
    ·split
     ·exact .inr ⟨_,rfl⟩
     ·split
      ·exact .inr ⟨_,rfl⟩
      ·exact .inl rfl
   ·exact .inr ⟨_,rfl⟩
  ·exact .inr ⟨_,rfl⟩
theorem zqu {rs:List Rw} {i:Nat} {r:Rw} (h:rs[i]? =some r):(rs.map ze).getD i .non=ze r:=by
 rw [List.getD_eq_getElem?_getD,List.getElem?_map,h];rfl
theorem zeq {n i k:Nat} (h:(List.range n)[i]? =some k):k=i∧i < n:=by
 obtain ⟨h1,h2⟩:=List.getElem?_eq_some_iff.1 h
 simp at h1 h2;exact ⟨h2.symm,h1⟩
def zq5 (js:List Jb) (A:Int→Int) (rs:List Rw) (h:H3) (R:Res Vl):Prop:=∃kvs,R= .ok (.m (.lst ((qK js A rs rs.length).map encD))) (h++[.dT kvs])
theorem zk6 (js:List Jb) (rows:List (Int×Int)) (rest:Int) {rs:List Rw} {x:V3} {h:H3} (hx:IsL h x (rs.map ze)) (hj:js.length≤1000) (hr:rs.length≤1000):
  zq5 js (fun t=>Cal.at_ rows rest t) rs h (f_faults [.lst (js.map Jb.enc),calV rows rest,x] h):=by
 unfold f_faults zh8 zfl zff
 refine qM rfl ?_
 refine zP (by (simp_arith []) <;> rfl) ?_
 refine zf5 (x:= .lst (js.map Jb.enc)) (l:=js) (enc:=Jb.enc) (by simp_arith []) rfl (fun i s=> ∃kvs y4,s=[some (.v (.lst (js.map Jb.enc))),some (.v (calV rows rest)),some (.v x),some (.m (.dT kvs)),y4,none,none,none,none,none]∧Bn kvs (js.take i)) ⟨[],none,rfl,⟨fun z=>by simp [zw,fj],Nat.le_refl _⟩⟩ ?_ ?_
 ·rintro i j s hi ⟨kvs,y4,rfl,b⟩
  have hl:kvs.length < sizeLine:=by
   have h1:=b.len
   rw [List.length_take] at h1
   have:=yt;omega
  refine ⟨_,by (simp_arith [qS,yp,C3.dc,Dc.put,Dc.c,Dc.len,qu,Option.map_some,hl]) <;> rfl,⟨_,_,rfl,?_⟩⟩
  rw [zb1 hi]
  refine ⟨fun z=>?_,?_⟩
  ·rw [zfv,zn4,b.val]
   by_cases hz:z=j.n
   ·rw [if_pos hz,if_pos (by rw [hz])];rfl
   ·rw [if_neg hz,if_neg fun e=>hz (Sum.inr.inj (MK.one.inj e))]
  ·have h1:=zfx kvs (.one (.inr j.n)) j.enc
   have h2:=b.len
   rw [List.length_append,List.length_singleton];omega
 ·rintro s ⟨kj,y4,rfl,b⟩
  rw [List.take_length] at b
  refine zP (by (simp_arith [eGl,eDnT]) <;> rfl) ?_
  refine zP (by (simp_arith []) <;> rfl) ?_
  obtain ⟨ok,hw,hok⟩: ∃ok,yj (h++[.dT []]) x=some (rs.map ze,ok)∧∀kvs,ok (h++[.dT kvs]):=by
   rcases hx with rfl | ⟨n,rfl,e⟩
   ·exact ⟨_,rfl,fun _=>trivial⟩
   ·have hlt:n < h.length:=(List.getElem?_eq_some_iff.1 e).1
    have g: ∀kvs,(h++[C3.dT kvs])[n]? =some (.lst (rs.map ze)):=fun kvs=>by rw [List.getElem?_append_left hlt];exact e
    exact ⟨fun h'=>h'[n]? =some (.lst (rs.map ze)),by simp only [yj,g []],g⟩
  refine zre (l:=List.range rs.length) (enc:=fun k:Nat=> .tup [.int k,(rs.map ze).getD k .non]) (its:=[x]) (ok:=ok) (by (simp_arith [qy,hw,List.length_map]) <;> rfl)
   (fun i s h'=> ∃kvs y7 y8 y9,s=[some (.v (.lst (js.map Jb.enc))),some (.v (calV rows rest)),some (.v x),some (.m (.dT kj)),y4,some (.v (.loc h.length)),some (.m (.lst ((qK js (fun t=>Cal.at_ rows rest t) rs i).map encD))),y7,y8,y9]∧h'=h++[.dT kvs]∧Cnt kvs ((rs.take i).flatMap keys))
   (fun i s h' ⟨kvs,_,_,_,_,e,_⟩=>e ▸ hok kvs) ⟨[],none,none,none,rfl,rfl,Cnt.nil⟩ ?_ ?_
  ·rintro i k s h' hi ⟨kvs,y7,y8,y9,rfl,rfl,c⟩
   obtain ⟨rfl,hil⟩:=zeq hi
   have hri:rs[k]? =some rs[k]:=zy hil
   generalize rs[k]=r at hri
   have hgr:=zqu hri
   have g0:(h++[C3.dT kvs])[h.length]? =some (.dT kvs):=by simp
   have hL:((rs.take k).flatMap keys).length≤10000:=by
    have: ∀l:List Rw,(l.flatMap keys).length=3*l.length:=fun l=>by
     induction l with
     | nil=>rfl
     | cons a l ih=>rw [List.flatMap_cons,List.length_append,ih,List.length_cons];simp [keys];omega
    rw [this,List.length_take];omega
   obtain ⟨kvs',ec,c'⟩:=zm9 c g0 hL r
   have hset:(h++[C3.dT kvs]).set h.length (.dT kvs')=h++[.dT kvs']:=zgz rfl
   rw [hset] at ec
   have ew:=znp c g0 rows rest (fj js r.2.2) r
   have eg:=fun z=>b.val z
   have hap:((qK js (fun t=>Cal.at_ rows rest t) rs k).map encD).length < sizeLine:=by
    have:=zn9 js (fun t=>Cal.at_ rows rest t) rs k
    rw [List.length_map];have:=yt;omega
   have hdu:qK js (fun t=>Cal.at_ rows rest t) rs (k+1)=qK js (fun t=>Cal.at_ rows rest t) rs k++(match wd (fj js r.2.2) (Cal.at_ rows rest r.1) (rs.take k) r with
    | .str z=>[(k,z)]
    | _=>[]):=by
    show qK js (fun t=>Cal.at_ rows rest t) rs k++_=_
    rw [hri]
   have hc2:Cnt kvs' ((rs.take (k+1)).flatMap keys):=by rw [zb1 hri,List.flatMap_append];simpa using c'
   rw [hdu]
   have hap2: ∀y,yV ((qK js (fun t=>Cal.at_ rows rest t) rs k).map encD) [y]=some ((qK js (fun t=>Cal.at_ rows rest t) rs k).map encD++[y],.non):=fun y=>mAppend_ok hap
   rcases zv7 (fj js r.2.2) (Cal.at_ rows rest r.1) (rs.take k) r with e | ⟨z,e⟩
   ·rw [e] at ew ⊢
    exact ⟨_,_,by (simp_arith [hgr,zrl,yp,C3.dc,Dc.get,qu,Option.map_some,eg,zsm,ew,ec,eq_self]) <;> rfl,⟨_,_,_,_,by rw [List.append_nil],rfl,hc2⟩⟩
   ·rw [e] at ew ⊢
    exact ⟨_,_,by (simp_arith [hgr,zrl,yp,C3.dc,Dc.get,qu,Option.map_some,eg,zsm,ew,ec,hap2,eq_self]) <;> rfl,⟨_,_,_,_,by rw [List.map_append];rfl,rfl,hc2⟩⟩
  ·rintro s h' ⟨kvs,y7,y8,y9,rfl,rfl,c⟩
   rw [List.length_range]
   exact ⟨kvs,by (simp_arith []) <;> rfl⟩
end My
open PySem
namespace Lay
abbrev Rw:=Int×Int×Str
def row (f t:Int) (p:Nat) (n:Str):Rw:=(f+(p:Int) % t,(p:Int) / t,n)
noncomputable def lic (f t:Int):List (Str×Nat)→Nat→List Rw
 | [],_=>[]
 | (n,s)::r,st=>(List.range s).map (fun q=>row f t (st+q) n)++lic f t r (st+s)
def tot (l:List (Str×Nat)):Nat:=(l.map (·.2)).sum
theorem tot_cons (a:Str×Nat) (l:List (Str×Nat)):tot (a::l)=a.2+tot l:=by simp [tot]
theorem lic_snoc (f t:Int) (n:Str) (s:Nat): ∀(l:List (Str×Nat)) (st:Nat),lic f t (l++[(n,s)]) st=lic f t l st++(List.range s).map fun q=>row f t (st+tot l+q) n
 | [],st=>by simp [lic,tot]
 | (m,r)::l,st=>by
  rw [List.cons_append]
  show _++lic f t (l++[(n,s)]) (st+r)=_++lic f t l (st+r)++_
  rw [lic_snoc f t n s l,List.append_assoc,tot_cons]
  congr 2
  exact List.map_congr_left fun q _=>by rw [show st+r+tot l+q=st+(r+tot l)+q by omega]
theorem lic_len (f t:Int): ∀(l:List (Str×Nat)) (st:Nat),(lic f t l st).length=tot l
 | [],_=>rfl
 | (m,r)::l,st=>by
  show (_++lic f t l (st+r)).length=_
  rw [List.length_append,lic_len f t l,List.length_map,List.length_range,tot_cons]
def jc (f t:Int) (p:Nat):Int×Int:=(f+(p:Int) % t,(p:Int) / t)
theorem zo0 (f t:Int): ∀(l:List (Str×Nat)) (st:Nat),(lic f t l st).map (fun r=>(r.1,r.2.1))=(List.range' st (tot l)).map (jc f t)
 | [],_=>rfl
 | (m,r)::l,st=>by
  show (_++lic f t l (st+r)).map _=_
  rw [List.map_append,zo0 f t l,tot_cons,←List.range'_append_1,List.map_append]
  congr 1
  rw [List.map_map,List.range'_eq_map_range,List.map_map]
  rfl
theorem zt1 {f t:Int} (ht:0 < t) {p q:Nat} (h:jc f t p=jc f t q):p=q:=by
 unfold jc at h
 have h1:f+(p:Int) % t=f+(q:Int) % t:=congrArg Prod.fst h
 have h2:(p:Int) / t=(q:Int) / t:=congrArg Prod.snd h
 have e1:=Int.emod_add_mul_ediv (p:Int) t
 have e2:=Int.emod_add_mul_ediv (q:Int) t
 rw [h2] at e1
 omega
theorem zpi {f t:Int} (ht:0 < t) (l:List (Str×Nat)) (st:Nat):((lic f t l st).map fun r=>(r.1,r.2.1)).Nodup:=by
 rw [zo0]
 unfold List.Nodup
 rw [List.pairwise_map]
 exact (List.nodup_range' (s:=st) (n:=tot l)).imp fun h z=>h (zt1 ht z)
theorem lic_mem {f t:Int}: ∀{l:List (Str×Nat)} {st:Nat} {r:Rw},r∈lic f t l st→∃p n s,(n,s)∈l∧0 < s∧st≤p∧p < st+tot l∧r=row f t p n
 | [],_,_,h=>by simp [lic] at h
 | (m,k)::l,st,r,h=>by
  have h:r∈(List.range k).map (fun q=>row f t (st+q) m)++lic f t l (st+k):=h
  rw [tot_cons]
  rcases List.mem_append.1 h with h | h
  ·obtain ⟨q,hq,rfl⟩:=List.mem_map.1 h
   have hq:q < k:=by simpa using hq
   exact ⟨st+q,m,k,List.mem_cons_self,by omega,by omega,by show st+q < st+(k+tot l);omega,rfl⟩
  ·obtain ⟨p,n,s,h1,h2,h3,h4,h5⟩:=lic_mem h
   exact ⟨p,n,s,List.mem_cons_of_mem _ h1,h2,by omega,by show p < st+(k+tot l);omega,h5⟩
def shr (l:List (Str×Nat)) (z:Str):Nat:=((l.filter fun a=>decide (a.1=z)).map (·.2)).sum
theorem lic_cnt (f t:Int) (z:Str): ∀(l:List (Str×Nat)) (st:Nat),(lic f t l st).countP (fun r=>decide (r.2.2=z))=shr l z
 | [],_=>rfl
 | (m,k)::l,st=>by
  show (_++lic f t l (st+k)).countP _=_
  rw [List.countP_append,lic_cnt f t z l]
  unfold shr
  by_cases h:m=z
  ·subst h
   rw [List.filter_cons_of_pos (by simp),List.map_cons,List.sum_cons]
   congr 1
   rw [List.countP_map]
   have:((fun r:Rw=>decide (r.2.2=m))∘fun q=>row f t (st+q) m)=fun _=>true:=by funext q;simp [row]
   rw [this,List.countP_true,List.length_range]
  ·rw [List.filter_cons_of_neg (by simpa using h)]
   rw [List.countP_map]
   have:((fun r:Rw=>decide (r.2.2=z))∘fun q=>row f t (st+q) m)=fun _=>false:=by funext q;simp [row,h]
   rw [this,List.countP_false];exact Nat.zero_add _
theorem zo2 {t d:Nat} (st s:Nat) (hs:s≤t):(List.range s).countP (fun q=>decide ((st+q) % t=d))≤1:=by
 have hn:((List.range s).map fun q=>(st+q) % t).Nodup:=by
  unfold List.Nodup
  rw [List.pairwise_map]
  refine List.Pairwise.imp_of_mem (fun {a b} ha hb hab z=>?_) (List.pairwise_lt_range (n:=s))
  have hb:b < s:=by simpa using hb
  have e1:=Nat.mod_add_div (st+a) t
  have e2:=Nat.mod_add_div (st+b) t
  rw [z] at e1
  have h3:t*((st+b) / t) - t*((st+a) / t)=b - a:=by omega
  rw [←Nat.mul_sub] at h3
  rcases Nat.eq_zero_or_pos ((st+b) / t - (st+a) / t) with h4 | h4
  ·rw [h4] at h3;omega
  ·have:=Nat.le_mul_of_pos_right t h4;omega
 have:=List.nodup_iff_count.1 hn d
 rw [List.count_eq_countP,List.countP_map] at this
 refine Nat.le_trans (Nat.le_of_eq (List.countP_congr fun q _=>?_)) this
 simp
theorem zmf {t d:Nat}: ∀(b st s:Nat),s≤b*t→(List.range s).countP (fun q=>decide ((st+q) % t=d))≤b
 | 0,st,s,h=>by
  have:s=0:=by omega
  subst this;simp
 | b+1,st,s,h=>by
  by_cases hs:s≤t
  ·exact Nat.le_trans (zo2 st s hs) (by omega)
  ·have e:s=t+(s - t):=by omega
   rw [e,List.range_add,List.countP_append,List.countP_map]
   have h1:=zo2 (d:=d) st t (Nat.le_refl t)
   have h2:=zmf (t:=t) (d:=d) b (st+t) (s - t) (by rw [Nat.succ_mul] at h;omega)
   have e2:((fun q=>decide ((st+q) % t=d))∘fun x=>t+x)=fun q=>decide ((st+t+q) % t=d):=by
    funext q;simp only [Function.comp];rw [show st+(t+q)=st+t+q by omega]
   rw [e2]
   omega
theorem zlc {f:Int} {t:Nat} (c:Int) (z:Str) (b:Nat): ∀(l:List (Str×Nat)) (st:Nat),(l.map (·.1)).Nodup→(∀a∈l,a.1=z→a.2≤b*t)→(lic f t l st).countP (fun r=>decide (r.1=c) && decide (r.2.2=z))≤b
 | [],_,_,_=>Nat.zero_le _
 | (m,k)::l,st,hn,hb=>by
  rw [List.map_cons,List.nodup_cons] at hn
  show (_++lic f t l (st+k)).countP _≤_
  rw [List.countP_append,List.countP_map]
  by_cases h:m=z
  ·subst h
   have h0:(lic f t l (st+k)).countP (fun r=>decide (r.1=c) && decide (r.2.2=m))=0:=by
    refine Nat.eq_zero_of_le_zero (Nat.le_trans (List.countP_mono_left (q:=fun r=>decide (r.2.2=m)) fun r _ h=>?_) (Nat.le_of_eq ?_))
    ·simp at h ⊢;exact h.2
    ·rw [lic_cnt]
     unfold shr
     rw [(List.filter_eq_nil_iff (p:=fun a:Str×Nat=>decide (a.1=m))).2 fun a ha e=>hn.1 (by have e:a.1=m:=of_decide_eq_true e;show m∈l.map (fun x:Str×Nat=>x.1);rw [←e];exact List.mem_map_of_mem (f:=fun x:Str×Nat=>x.1) ha)];rfl
   rw [h0,Nat.add_zero]
   refine Nat.le_trans (List.countP_mono_left (q:=fun q=>decide ((st+q) % t=(c - f).toNat)) fun q _ h=>?_) (zmf b st k (hb _ List.mem_cons_self rfl))
   simp only [Function.comp,row,Bool.and_eq_true,decide_eq_true_eq] at h ⊢
   have h1:f+((st+q:Nat):Int) % (t:Int)=c:=of_decide_eq_true h.1
   have e:((st+q:Nat):Int) % (t:Int)=(((st+q) % t:Nat):Int):=by simp
   rw [e] at h1
   omega
  ·have h0:(List.range k).countP ((fun r:Rw=>decide (r.1=c) && decide (r.2.2=z))∘fun q=>row f t (st+q) m)=0:=by
    rw [List.countP_eq_zero]
    intro q _ e
    simp [row,h] at e
   rw [h0,Nat.zero_add]
   exact zlc c z b l (st+k) hn.2 fun a ha=>hb a (List.mem_cons_of_mem _ ha)
structure Cl where
 f:Int
 t:Nat
 m:Int
def Chain:List Cl→Prop
 | []=>True
 | c::r=>0 < c.t∧(∀d∈r,c.f+c.t≤d.f)∧Chain r
noncomputable def raw:List (Cl×List (Str×Nat))→List Rw
 | []=>[]
 | (c,l)::r=>lic c.f c.t l 0++raw r
theorem row_in {f:Int} {t p:Nat} {n:Str} (ht:0 < t):f≤(row f t p n).1∧(row f t p n).1 < f+t:=by
 unfold row
 have h1:=Int.emod_nonneg (p:Int) (show (t:Int)≠0 by omega)
 have h2:=Int.emod_lt_of_pos (p:Int) (show (0:Int) < t by omega)
 omega
theorem raw_mem: ∀{L:List (Cl×List (Str×Nat))} {r:Rw},r∈raw L→∃cl∈L,r∈lic cl.1.f cl.1.t cl.2 0
 | [],_,h=>by simp [raw] at h
 | (c,l)::L,r,h=>by
  have h:r∈lic c.f c.t l 0++raw L:=h
  rcases List.mem_append.1 h with h | h
  ·exact ⟨_,List.mem_cons_self,h⟩
  ·obtain ⟨cl,h1,h2⟩:=raw_mem h
   exact ⟨cl,List.mem_cons_of_mem _ h1,h2⟩
theorem Chain.pos: ∀{L:List Cl},Chain L→∀c∈L,0 < c.t
 | [],_,_,h=>by simp at h
 | a::L,h,c,hc=>by
  rcases List.mem_cons.1 hc with rfl | hc
  ·exact h.1
  ·exact Chain.pos h.2.2 c hc
theorem lic_in {f:Int} {t:Nat} (ht:0 < t) {l:List (Str×Nat)} {st:Nat} {r:Rw} (h:r∈lic f t l st):f≤r.1∧r.1 < f+t:=by
 obtain ⟨p,n,s,_,_,_,_,rfl⟩:=lic_mem h
 exact row_in ht
theorem raw_nodup: ∀{L:List (Cl×List (Str×Nat))},Chain (L.map (·.1))→((raw L).map fun r=>(r.1,r.2.1)).Nodup
 | [],_=>List.nodup_nil
 | (c,l)::L,h=>by
  show ((lic c.f c.t l 0++raw L).map _).Nodup
  rw [List.map_append,List.nodup_append]
  have hc:0 < c.t:=h.1
  refine ⟨zpi (by omega) l 0,raw_nodup h.2.2,fun a ha b hb e=>?_⟩
  subst e
  obtain ⟨r,hr,rfl⟩:=List.mem_map.1 ha
  obtain ⟨q,hq,e⟩:=List.mem_map.1 hb
  obtain ⟨cl,h1,h2⟩:=raw_mem hq
  have b1:=lic_in hc hr
  have b2:=lic_in (h.2.2.pos cl.1 (List.mem_map_of_mem h1)) h2
  have b3:c.f+c.t≤cl.1.f:=h.2.1 _ (List.mem_map_of_mem h1)
  have e1:q.1=r.1:=(Prod.mk.inj e).1
  omega
theorem raw_cnt (z:Str): ∀(L:List (Cl×List (Str×Nat))),(raw L).countP (fun r=>decide (r.2.2=z))=(L.map fun cl=>shr cl.2 z).sum
 | []=>rfl
 | (c,l)::L=>by
  show (lic c.f c.t l 0++raw L).countP _=_
  rw [List.countP_append,lic_cnt,raw_cnt z L,List.map_cons,List.sum_cons]
theorem zuk: ∀{L:List (Cl×List (Str×Nat))} {c:Int},Chain (L.map (·.1))→(∀cl∈L,c < cl.1.f)→∀(q:Rw→Bool),(raw L).countP (fun r=>decide (r.1=c) && q r)=0:=fun {L c} h hc q=>by
 rw [List.countP_eq_zero]
 intro r hr e
 obtain ⟨cl,h1,h2⟩:=raw_mem hr
 have b2:=lic_in (h.pos cl.1 (List.mem_map_of_mem h1)) h2
 have b3:=hc cl h1
 simp at e
 omega
theorem raw_turn (c:Int) (z:Str) (b:Nat): ∀{L:List (Cl×List (Str×Nat))},Chain (L.map (·.1))→(∀cl∈L,(cl.2.map (·.1)).Nodup∧∀a∈cl.2,a.1=z→a.2≤b*cl.1.t)→(raw L).countP (fun r=>decide (r.1=c) && decide (r.2.2=z))≤b
 | [],_,_=>Nat.zero_le _
 | (d,l)::L,h,hb=>by
  show (lic d.f d.t l 0++raw L).countP _≤_
  rw [List.countP_append]
  have h1:=hb _ List.mem_cons_self
  by_cases hc:c < d.f+d.t
  ·have h0:=zuk (L:=L) (c:=c) h.2.2 (fun cl hcl=>by have:d.f+d.t≤cl.1.f:=h.2.1 cl.1 (List.mem_map_of_mem hcl);omega) fun r=>decide (r.2.2=z)
   rw [h0,Nat.add_zero]
   exact zlc c z b l 0 h1.1 h1.2
  ·have h0:(lic d.f d.t l 0).countP (fun r=>decide (r.1=c) && decide (r.2.2=z))=0:=by
    rw [List.countP_eq_zero]
    intro r hr e
    have b1:=lic_in h.1 hr
    simp at e
    have b4:(List.map (fun x:Cl×List (Str×Nat)=>x.1) ((d,l)::L)).head? =some d:=rfl
    have:=e.1
    have b2:d.f≤r.1∧r.1 < d.f+d.t:=b1
    omega
   rw [h0,Nat.zero_add]
   exact raw_turn c z b h.2.2 fun cl hcl=>hb cl (List.mem_cons_of_mem _ hcl)
end Lay
namespace My
open PySem L2 L3
def zxb (m:Int) (h:H3) (R:Res Vl):Prop:=∃rows:List (Int×Int),R= .ok (.m (.lst (rows.map zm))) h∧rows.length=m.toNat∧∀p∈rows,1≤p.1∧p.1≤1000000∧0≤p.2∧p.2≤16
theorem zo8 (ns:List Int) (m:Int) (hm:0≤m∧m≤10) (h:H3):zxb m h (f_law_days [.scr ns,.int m] h):=by
 unfold f_law_days zfi zdy
 refine qM rfl ?_
 refine zP (by (simp_arith []) <;> rfl) ?_
 have p1:CPow 10 5:=by decide
 have p2:(10:Int) ^ (5:Int).toNat=100000:=by decide
 refine zpn (j:=m) (by simp_arith []) (by omega) (fun i s=> ∃rows y3 y4 y5,s=[some (.v (.scr ns)),some (.v (.int m)),some (.m (.lst (rows.map zm))),y3,y4,y5]∧rows.length=i∧∀p∈rows,1≤p.1∧p.1≤1000000∧0≤p.2∧p.2≤16) ⟨[],none,none,none,rfl,rfl,by simp⟩ ?_ ?_
 ·rintro i s hi ⟨rows,y3,y4,y5,rfl,hl,ho⟩
  have hc:=zjk ns (3+(i:Int)) (by omega) (by omega) h
  generalize cell ns (3+(i:Int))=c at hc
  have c3:rows.length < sizeLine:=by have:=yt;omega
  have app: ∀x:Int,1≤x→x≤100000→∀p∈rows++[(x,c / 11 % 17)],1≤p.1∧p.1≤1000000∧0≤p.2∧p.2≤16:=fun x h1 h2 p hp=>by
   rw [List.mem_append,List.mem_singleton] at hp
   rcases hp with hp | rfl
   ·exact ho p hp
   ·show 1≤x∧x≤1000000∧0≤c / 11 % 17∧c / 11 % 17≤16
    omega
  by_cases hq:c / 9 % 7=3
  ·have u0:=hq
   exact ⟨_,by (simp_arith [hc,hq,p1,p2,c3,List.length_map]) <;> rfl,⟨rows++[(1+c / 63 % 100000,c / 11 % 17)],_,_,_,by rw [List.map_append];rfl,by simp [hl],app _ (by omega) (by omega)⟩⟩
  ·have u0:=hq
   exact ⟨_,by (simp_arith [hc,hq,p1,p2,c3,List.length_map]) <;> rfl,⟨rows++[(1+c % 9,c / 11 % 17)],_,_,_,by rw [List.map_append];rfl,by simp [hl],app _ (by omega) (by omega)⟩⟩
 ·rintro s ⟨rows,y3,y4,y5,rfl,hl,ho⟩
  exact ⟨rows,by (simp_arith []) <;> rfl,hl,ho⟩
abbrev Cl:=Lay.Cl
noncomputable abbrev zn (c:Cl):V3:= .tup [.int c.f,.int (c.f+c.t - 1),.int c.m]
noncomputable def yT (rest:Int):List (Int×Int)→Int→List Cl
 | [],st=>[⟨st,10,rest⟩]
 | p::r,st=>⟨st,p.1.toNat,p.2⟩::yT rest r (st+p.1)
noncomputable def pre:List (Int×Int)→Int→List Cl
 | [],_=>[]
 | p::r,st=>⟨st,p.1.toNat,p.2⟩::pre r (st+p.1)
theorem zj8 (rest:Int): ∀(rows:List (Int×Int)) (st:Int),yT rest rows st=pre rows st++[⟨st+Cal.tot rows,10,rest⟩]
 | [],st=>by simp [yT,pre,Cal.tot]
 | p::r,st=>by
  show _::yT rest r (st+p.1)=_::(pre r (st+p.1)++_)
  rw [zj8 rest r]
  have:Cal.tot (p::r)=p.1+Cal.tot r:=rfl
  rw [this,show st+p.1+Cal.tot r=st+(p.1+Cal.tot r) by omega]
theorem zmq: ∀(rows:List (Int×Int)) (p:Int×Int) (st:Int),pre (rows++[p]) st=pre rows st++[⟨st+Cal.tot rows,p.1.toNat,p.2⟩]
 | [],p,st=>by simp [pre,Cal.tot]
 | q::r,p,st=>by
  show _::pre (r++[p]) (st+q.1)=_::(pre r (st+q.1)++_)
  rw [zmq r]
  have:Cal.tot (q::r)=q.1+Cal.tot r:=rfl
  rw [this,show st+q.1+Cal.tot r=st+(q.1+Cal.tot r) by omega]
theorem zh3: ∀(rows:List (Int×Int)) (st:Int),(pre rows st).length=rows.length
 | [],_=>rfl
 | p::r,st=>by show (pre r (st+p.1)).length+1=_;rw [zh3 r];rfl
theorem zng (rows:List (Int×Int)) (rest:Int) (hl:rows.length≤1000) (hp: ∀p∈rows,1≤p.1) (h:H3):f_law_cells [.lst (rows.map zm),.int rest] h= .ok (.m (.lst ((yT rest rows 0).map zn))) h:=by
 show Is h _ _
 unfold f_law_cells zep zdl
 refine qM rfl ?_
 refine zP (by (simp_arith []) <;> rfl) ?_
 refine zP (by (simp_arith []) <;> rfl) ?_
 refine zf5 (x:= .lst (rows.map zm)) (l:=rows) (enc:=zm) (by simp_arith []) rfl (fun i s=> ∃y4 y5,s=[some (.v (.lst (rows.map zm))),some (.v (.int rest)),some (.m (.lst ((pre (rows.take i) 0).map zn))),some (.v (.int (Cal.tot (rows.take i)))),y4,y5]) ⟨none,none,rfl⟩ ?_ ?_
 ·rintro i p s hi ⟨y4,y5,rfl⟩
  have hil:i < rows.length:=(List.getElem?_eq_some_iff.1 hi).1
  have c3:(pre (rows.take i) 0).length < sizeLine:=by rw [zh3,List.length_take];have:=yt;omega
  have hp1:=hp p (List.mem_of_getElem? hi)
  refine ⟨_,by (simp_arith [c3,List.length_map]) <;> rfl,⟨some (.v (.int p.1)),some (.v (.int p.2)),?_⟩⟩
  rw [zb1 hi,zmq,Cal.tot_snoc,List.map_append,Int.zero_add]
  have e:((p.1.toNat:Nat):Int)=p.1:=by omega
  simp only [List.map_cons,List.map_nil,zn,e]
 ·rintro s ⟨y4,y5,rfl⟩
  rw [List.take_length]
  have c3:(pre rows 0).length < sizeLine:=by rw [zh3];have:=yt;omega
  unfold Is
  rw [zj8,Int.zero_add,List.map_append]
  have e:(Cal.tot rows+((10:Nat):Int) - 1)=Cal.tot rows+9:=by omega
  simp only [List.map_cons,List.map_nil,zn,e]
  (simp_arith [c3,List.length_map]) <;> rfl
abbrev zC (x:Nat):V3:= .int (x:Int)
structure ShOk (ps:List Cl) (rooms:List Int) (b bg en:Nat) (rc:List Int) (k x:Nat) (c:Cl):Prop where
 br:x≤b*c.t
 rm:(x:Int)≤rooms.getD k 0
 rc:rc.getD k 0=rooms.getD k 0 - x
 sp:0 < x→bg≤k∧k≤en
def Q_sh (ps:List Cl) (rooms:List Int) (w b bg en:Nat) (n:Nat) (h:H3) (R:Res Vl):Prop:=∃(sm:List Nat) (rc:List Int),R= .ok (.m (.lst (sm.map zC))) (h.set n (.lst (rc.map .int)))∧sm.length=ps.length∧rc.length=rooms.length∧sm.sum≤w∧∀k x c,sm[k]? =some x→ps[k]? =some c→ShOk ps rooms b bg en rc k x c
theorem zwq {sm:List Nat} {w:Nat} (h:sm.sum≤w) (hw:w≤60) (s:S3) (H:H3) (i:Nat) (e:s[i]? =some (some (.m (.lst (sm.map zC))))):ye s H [.s i]=some (.v (.int (sm.sum:Nat))):=by
 have e2:sm.map zC=(sm.map fun x:Nat=>(x:Int)).map V3.int:=by rw [List.map_map];rfl
 have key: ∀(l:List Nat) (a:Int),0≤a→a+(l.sum:Nat)≤1000→zi2 a (l.map fun x:Nat=>(x:Int))=true:=by
  intro l
  induction l with
  | nil=>intro a _ _;rfl
  | cons x r ih=>
   intro a h0 h1
   rw [List.sum_cons] at h1
   simp only [List.map_cons,zi2,Bool.and_eq_true,decide_eq_true_eq]
   refine ⟨⟨?_,?_⟩,ih (a+x) (by omega) (by omega)⟩ <;> (unfold InLong;omega)
 have hs: ∀l:List Nat,(l.map fun x:Nat=>(x:Int)).sum=((l.sum:Nat):Int):=by
  intro l
  induction l with
  | nil=>rfl
  | cons x r ih=>rw [List.map_cons,List.sum_cons,List.sum_cons,ih];omega
 unfold ye
 simp only [rdl,e,e2,zlb,if_pos (key sm 0 (Int.le_refl _) (by omega)),hs]
theorem ziz {l:List Int} {k:Nat} {v d:Int} (h:k < l.length):(l.set k v).getD k d=v:=by
 rw [List.getD_eq_getElem?_getD,List.getElem?_set_self h];rfl
theorem zg1 {l:List Int} {i k:Nat} {v d:Int} (h:i≠k):(l.set i v).getD k d=l.getD k d:=by
 rw [List.getD_eq_getElem?_getD,List.getElem?_set_ne h,←List.getD_eq_getElem?_getD]
def shA:D3:=(sSeq (sSet 10 (eB bMin3 (aCons (pE (eOp yc (pE (eOp zr (pV 2) (pE (eC (.int 4))))) (pE (eOp zi (pE (eOp yd (pE (eOp zr (pV 8) (pE (eC (.int 1))))) (pE (eOp zr (pV 8) (pE (eC (.int 0))))))) (pE (eC (.int 1))))))) (aCons (pE (eOp zr (pV 5) (pV 7))) (aCons (pE (eOp yd (pE (eOp zr (pV 2) (pE (eC (.int 3))))) (pE (eB ye (aCons (pV 6) aNil))))) aNil))))) (sSeq (sSet 11 (eCall f_law_cell (aCons (pV 0) (aCons (pE (eOp zF (pE (eOp zi (pE (eOp zi (pE (eC (.int 24))) (pE (eOp yc (pV 1) (pE (eB bLen (aCons (pV 4) aNil))))))) (pV 7))) (pE (eB bMax (aCons (pE (eC (.int 63))) (aCons (pE (eB bLen (aCons (pV 0) aNil))) aNil)))))) aNil)))) (sSeq (sSet 9 (eOp zF (pE (eOp ya (pV 11) (pE (eC (.int 3))))) (pE (eOp zi (pV 10) (pE (eC (.int 1))))))) (sIf (tE (eOp yO (pE (eOp zF (pV 11) (pE (eC (.int 3))))) (pE (eC (.int 0))))) (sSet 9 (eV 10)) sSkip))))
def shB:D3:=(sSeq (zgl (pV 5) (pV 7) (eOp yd (pE (eOp zr (pV 5) (pV 7))) (pV 9))) (qi yV (pV 6) (aCons (pV 9) aNil)))
theorem sh_w:zc5=(zo (qy (aCons (pV 4) aNil)) (gT (gsCons (gN 7) (gsCons (gN 8) gsNil))) (sSeq (sSet 9 (eC (.int 0))) (sSeq (sIf (tE (eChain qt qt (pE (eOp zr (pV 3) (pE (eC (.int 0))))) (pV 7) (pE (eOp zr (pV 3) (pE (eC (.int 1))))))) shA sSkip) shB))):=rfl
section
variable (ns:List Int) (j:Nat) (nm:V3) (jf jl:Int) (w b:Nat) (sp:V3) (ps:List Cl) (sm:List Nat) (rc:List Int) (k:Nat) (c:Cl) (n:Nat) (h:H3) (r:Int)
theorem zw1 (hn:h[n]? =some (.lst (rc.map .int))) (hr:rc[k]? =some r) (s:S3):zr s h (.x (.loc n)) (.x (.int (k:Int)))=some (.v (.int r)):=by
 have e:atI (rc.map V3.int) (k:Int)=some (.int r):=qz (by rw [List.getElem?_map,hr];rfl)
 unfold zr qq oIxT oIxL oIxS
 simp only [rdl,hn,e]
 first | rfl | simp
theorem zvr (jI kI wI bI su mo idx nu cf cl:Int) (cm:V3) (hat: ∀s:S3,zr s h (.x (.loc n)) (.x (.int kI))=some (.v (.int r))) (hsum: ∀s:S3,s[6]? =some (some (.m (.lst (sm.map zC))))→ye s h [.s 6]=some (.v (.int su))) (c1: ∀x,CMul bI x) (c2: ∀x,CMul x (ps.length:Int))
  (c4:(0:Int) < max 63 (ns.length:Int)) (c5:max 63 (ns.length:Int) < 1073741824) (hidx:(24+jI*(ps.length:Int)+kI) % max 63 (ns.length:Int)=idx) (hc:f_law_cell [.scr ns,.int idx] h= .ok (.v (.int nu)) h) (hmo:min (bI*(cl - cf+1)) (min r (wI - su))=mo) (c6:(0:Int) < mo+1) (c7:mo+1 < 1073741824) (y9 y10 y11:Option Vl):
  shA [some (.v (.scr ns)),some (.v (.int jI)),some (.v (.tup [nm,.int jf,.int jl,.int wI,.int bI])),some (.v sp),some (.v (.lst (ps.map zn))),some (.v (.loc n)),some (.m (.lst (sm.map zC))),some (.v (.int kI)),some (.v (.tup [.int cf,.int cl,cm])),y9,y10,y11] h= .nx [some (.v (.scr ns)),some (.v (.int jI)),some (.v (.tup [nm,.int jf,.int jl,.int wI,.int bI])),some (.v sp),some (.v (.lst (ps.map zn))),some (.v (.loc n)),some (.m (.lst (sm.map zC))),some (.v (.int kI)),some (.v (.tup [.int cf,.int cl,cm])),some (.v (.int (if nu % 3=0 then mo else nu / 3 % (mo+1)))),some (.v (.int mo)),some (.v (.int nu))] h:=by
 unfold shA
 by_cases h3:nu % 3=0
 ·rw [if_pos h3]
  simp_arith [c1,c2,c4,c5,hat,hsum,List.length_map,hidx,hc,hmo,c6,c7,h3]
 ·rw [if_neg h3]
  simp_arith [c1,c2,c4,c5,hat,hsum,List.length_map,hidx,hc,hmo,c6,c7,h3]
theorem zxk (hns:ns.length≤63) (hw:w≤60) (hb:b≤16) (hps:ps.length≤100) (hsw:sm.sum≤w) (hn:h[n]? =some (.lst (rc.map .int))) (hr:rc[k]? =some r) (hr0:0≤r) (y9 y10 y11:Option Vl): ∃(x:Nat) (z10 z11:Option Vl),x≤b*c.t∧(x:Int)≤r∧sm.sum+x≤w∧
  shA [some (.v (.scr ns)),some (.v (.int (j:Int))),some (.v (.tup [nm,.int jf,.int jl,.int (w:Int),.int (b:Int)])),some (.v sp),some (.v (.lst (ps.map zn))),some (.v (.loc n)),some (.m (.lst (sm.map zC))),some (.v (.int (k:Int))),some (.v (zn c)),y9,y10,y11] h
   = .nx [some (.v (.scr ns)),some (.v (.int (j:Int))),some (.v (.tup [nm,.int jf,.int jl,.int (w:Int),.int (b:Int)])),some (.v sp),some (.v (.lst (ps.map zn))),some (.v (.loc n)),some (.m (.lst (sm.map zC))),some (.v (.int (k:Int))),some (.v (zn c)),some (.v (.int (x:Int))),z10,z11] h:=by
 have hat:=zw1 rc k n h r hn hr
 have hsum: ∀s:S3,s[6]? =some (some (.m (.lst (sm.map zC))))→ye s h [.s 6]=some (.v (.int (sm.sum:Nat))):=fun s e=>zwq hsw hw s _ 6 e
 have c1: ∀x,CMul (b:Int) x:=fun x=>zeu ⟨by omega+splitNatSub,by omega+splitNatSub⟩
 have c2: ∀x,CMul x (ps.length:Int):=fun x=>zsc ⟨by omega+splitNatSub,by omega+splitNatSub⟩
 have c4:(0:Int) < max 63 (ns.length:Int):=by omega+splitNatSub
 have c5:max 63 (ns.length:Int) < 1073741824:=by omega+splitNatSub
 obtain ⟨idx,hidx⟩: ∃idx:Int,(24+(j:Int)*(ps.length:Int)+(k:Int)) % max 63 (ns.length:Int)=idx:=⟨_,rfl⟩
 have i1:0≤idx:=by rw [←hidx];exact Int.emod_nonneg _ (by omega+splitNatSub)
 have i2:idx≤100:=by have:=Int.emod_lt_of_pos (24+(j:Int)*(ps.length:Int)+(k:Int)) c4;omega+splitNatSub
 have hc:=zjk ns idx i1 i2 h
 generalize cell ns idx=nu at hc
 obtain ⟨mo,hmo⟩: ∃mo:Int,min ((b:Int)*(c.f+(c.t:Int) - 1 - c.f+1)) (min r ((w:Int) - ((sm.sum:Nat):Int)))=mo:=⟨_,rfl⟩
 have hbt:(b:Int)*(c.f+(c.t:Int) - 1 - c.f+1)=((b*c.t:Nat):Int):=by rw [show c.f+(c.t:Int) - 1 - c.f+1=c.t by omega+splitNatSub];simp
 have hm1:0≤mo∧mo≤((b*c.t:Nat):Int)∧mo≤r∧mo≤(w:Int) - (sm.sum:Nat):=by rw [hbt] at hmo;omega+splitNatSub
 clear hbt
 have c6:(0:Int) < mo+1:=by omega+splitNatSub
 have c7:mo+1 < 1073741824:=by omega+splitNatSub
 have run:=zvr ns nm jf jl sp ps sm n h r (j:Int) (k:Int) (w:Int) (b:Int) _ mo idx nu c.f (c.f+(c.t:Int) - 1) (.int c.m) hat hsum c1 c2 c4 c5 hidx hc hmo c6 c7 y9 y10 y11
 have q1:=Int.emod_nonneg (nu / 3) (show mo+1≠0 by omega+splitNatSub)
 have q2:=Int.emod_lt_of_pos (nu / 3) c6
 have q:0≤(if nu % 3=0 then mo else nu / 3 % (mo+1))∧(if nu % 3=0 then mo else nu / 3 % (mo+1))≤mo:=by split <;> omega+splitNatSub
 generalize (if nu % 3=0 then mo else nu / 3 % (mo+1))=y at q run
 obtain ⟨x,rfl⟩:=Int.eq_ofNat_of_zero_le q.1
 exact ⟨x,_,_,by omega+splitNatSub,by omega+splitNatSub,by omega+splitNatSub,run⟩
theorem ztl (kI xI:Int) (kn:Nat) (hat: ∀s:S3,zr s h (.x (.loc n)) (.x (.int kI))=some (.v (.int r))) (hix:qf rc.length kI=some kn) (hset: ∀v:Int,(rc.map V3.int).set kn (.int v)=(rc.set kn v).map .int) (hap: ∀y,yV (sm.map zC) [y]=some (sm.map zC++[y],.non)) (hn:h[n]? =some (.lst (rc.map .int))) (x0 x1 x2 x3 x4 x8 y10 y11:Option Vl):
  shB [x0,x1,x2,x3,x4,some (.v (.loc n)),some (.m (.lst (sm.map zC))),some (.v (.int kI)),x8,some (.v (.int xI)),y10,y11] h
   = .nx [x0,x1,x2,x3,x4,some (.v (.loc n)),some (.m (.lst (sm.map zC++[.int xI]))),some (.v (.int kI)),x8,some (.v (.int xI)),y10,y11] (h.set n (.lst ((rc.set kn (r - xI)).map .int))):=by
 unfold shB
 simp_arith [hat,List.length_map,zgl,hix,hn,hset,hap]
theorem zss (x:Nat) (hsl:sm.length≤100) (hn:h[n]? =some (.lst (rc.map .int))) (hr:rc[k]? =some r) (x1 x2 x8 y10 y11:Option Vl) (x0 x3 x4:Option Vl):
  shB [x0,x1,x2,x3,x4,some (.v (.loc n)),some (.m (.lst (sm.map zC))),some (.v (.int (k:Int))),x8,some (.v (.int (x:Int))),y10,y11] h
   = .nx [x0,x1,x2,x3,x4,some (.v (.loc n)),some (.m (.lst ((sm++[x]).map zC))),some (.v (.int (k:Int))),x8,some (.v (.int (x:Int))),y10,y11] (h.set n (.lst ((rc.set k (r - x)).map .int))):=by
 have hat:=zw1 rc k n h r hn hr
 have hkr:k < rc.length:=(List.getElem?_eq_some_iff.1 hr).1
 have hix:qf rc.length (k:Int)=some k:=by
  unfold qf
  rw [if_pos (by omega),if_pos (by omega)];simp
 rw [List.map_append]
 exact ztl sm rc n h r k x k hat hix (fun v=>by rw [List.map_set]) (fun y=>mAppend_ok (by rw [List.length_map];have:=yt;omega)) hn x0 x1 x2 x3 x4 x8 y10 y11
end
theorem zkf (ns:List Int) (hns:ns.length≤63) (j:Nat) (nm:V3) (jf jl:Int) (w b bg en:Nat) (hw:w≤60) (hb:b≤16) (ps:List Cl) (hps:ps.length≤100) (rooms:List Int) (hrl:rooms.length=ps.length) (hr0: ∀r∈rooms,0≤r) {n:Nat} {h:H3} (hn:h[n]? =some (.lst (rooms.map .int))):
  Q_sh ps rooms w b bg en n h (f_law_shares [.scr ns,.int (j:Int),.tup [nm,.int jf,.int jl,.int (w:Int),.int (b:Int)],.tup [.int (bg:Int),.int (en:Int)],.lst (ps.map zn),.loc n] h):=by
 unfold f_law_shares zdw
 rw [sh_w]
 refine qM rfl ?_
 have hlt:n < h.length:=(List.getElem?_eq_some_iff.1 hn).1
 refine zP (by (simp_arith []) <;> rfl) ?_
 refine zre (l:=List.range ps.length) (enc:=fun k:Nat=> .tup [.int k,(ps.map zn).getD k .non]) (its:=[.lst (ps.map zn)]) (ok:=fun _=>True) (by (simp_arith [qy,yj,List.length_map]) <;> rfl)
  (fun i s h'=> ∃(sm:List Nat) (rc:List Int) (y7 y8 y9 y10 y11:Option Vl),s=[some (.v (.scr ns)),some (.v (.int (j:Int))),some (.v (.tup [nm,.int jf,.int jl,.int (w:Int),.int (b:Int)])),some (.v (.tup [.int (bg:Int),.int (en:Int)])),some (.v (.lst (ps.map zn))),some (.v (.loc n)),some (.m (.lst (sm.map zC))),y7,y8,y9,y10,y11]
   ∧h'=h.set n (.lst (rc.map .int))∧sm.length=i∧rc.length=rooms.length∧sm.sum≤w∧(∀k x c,sm[k]? =some x→ps[k]? =some c→ShOk ps rooms b bg en rc k x c)∧∀k,i≤k→rc.getD k 0=rooms.getD k 0)
  (fun _ _ _ _=>trivial) ⟨[],rooms,none,none,none,none,none,rfl,by rw [←(List.getElem?_eq_some_iff.1 hn).2,List.set_getElem_self],rfl,rfl,Nat.zero_le _,by simp,fun _ _=>rfl⟩ ?_ ?_
 ·rintro i k s h' hi ⟨sm,rc,y7,y8,y9,y10,y11,rfl,rfl,hsl,hrc,hsw,hall,hrest⟩
  obtain ⟨rfl,hil⟩:=zeq hi
  have hpi:ps[k]? =some ps[k]:=zy hil
  generalize ps[k]=c at hpi
  have hgp:(ps.map zn).getD k .non=zn c:=by rw [List.getD_eq_getElem?_getD,List.getElem?_map,hpi];rfl
  have hkr:k < rc.length:=by omega
  obtain ⟨r,hr⟩: ∃r,r=rc.getD k 0:=⟨_,rfl⟩
  have hr':rc[k]? =some r:=by rw [hr,List.getD_eq_getElem?_getD,zy hkr];rfl
  have hrr:r=rooms.getD k 0:=by rw [hr,hrest k (Nat.le_refl _)]
  have hr00:0≤r:=by
   have hk2:k < rooms.length:=by omega
   rw [hrr,List.getD_eq_getElem?_getD,zy hk2]
   exact hr0 _ (List.getElem_mem hk2)
  have g0:(h.set n (.lst (rc.map V3.int)))[n]? =some (.lst (rc.map .int)):=List.getElem?_set_self hlt
  have g1: ∀x y,(h.set n x).set n y=h.set n y:=fun x y=>List.set_set ..
  have fin: ∀x:Nat,(x≤b*c.t)→(x:Int)≤r→(0 < x→bg≤k∧k≤en)→sm.sum+x≤w→(sm++[x]).length=k+1∧(rc.set k (r - x)).length=rooms.length∧(sm++[x]).sum≤w∧(∀k' y c',(sm++[x])[k']? =some y→ps[k']? =some c'→ShOk ps rooms b bg en (rc.set k (r - x)) k' y c')∧∀k',k+1≤k'→(rc.set k (r - x)).getD k' 0=rooms.getD k' 0:=fun x x1 x2 x3 x4=>by
   refine ⟨by simp [hsl],by rw [List.length_set];exact hrc,by simpa using x4,fun k' y c' hy hc'=>?_,fun k' hk'=>by rw [zg1 (by omega)];exact hrest k' (by omega)⟩
   by_cases hk':k' < sm.length
   ·rw [List.getElem?_append_left hk'] at hy
    have o:=hall k' y c' hy hc'
    exact ⟨o.br,o.rm,by rw [zg1 (by omega)];exact o.rc,o.sp⟩
   ·have e:k'=k:=by
     have:=(List.getElem?_eq_some_iff.1 hy).1
     rw [List.length_append,List.length_singleton] at this;omega
    subst e
    rw [List.getElem?_append_right (by omega)] at hy
    have hy:x=y:=by rw [show k' - sm.length=0 by omega] at hy;simpa using hy
    subst hy
    rw [hpi] at hc';cases hc'
    exact ⟨x1,by rw [←hrr];exact x2,by rw [ziz hkr,←hrr],x3⟩
  by_cases hsp:bg≤k∧k≤en
  ·have s1:(bg:Int)≤(k:Int):=by omega
   have s2:(k:Int)≤(en:Int):=by omega
   obtain ⟨x,z10,z11,x1,x2,x3,eA⟩:=zxk ns j nm jf jl w b (.tup [.int (bg:Int),.int (en:Int)]) ps sm rc k c n _ r hns hw hb hps hsw g0 hr' hr00 (some (.v (.int 0))) y10 y11
   have eB:=zss sm rc k n _ r x (by omega) g0 hr' (some (.v (.int (j:Int)))) (some (.v (.tup [nm,.int jf,.int jl,.int (w:Int),.int (b:Int)]))) (some (.v (zn c))) z10 z11 (some (.v (.scr ns))) (some (.v (.tup [.int (bg:Int),.int (en:Int)]))) (some (.v (.lst (ps.map zn))))
   rw [g1] at eB
   exact ⟨_,_,by (simp_arith [hgp,s1,s2,eA,eB]) <;> rfl,⟨sm++[x],rc.set k (r - x),_,_,_,_,_,rfl,rfl,fin x x1 x2 (fun _=>hsp) x3⟩⟩
  ·have eB:=fun z10 z11=>zss sm rc k n _ r 0 (by omega) g0 hr' (some (.v (.int (j:Int)))) (some (.v (.tup [nm,.int jf,.int jl,.int (w:Int),.int (b:Int)]))) (some (.v (zn c))) z10 z11 (some (.v (.scr ns))) (some (.v (.tup [.int (bg:Int),.int (en:Int)]))) (some (.v (.lst (ps.map zn))))
   simp only [g1,Int.ofNat_zero,Int.natCast_zero] at eB
   have f:=fin 0 (Nat.zero_le _) (by omega) (fun z=>absurd z (Nat.lt_irrefl _)) (by omega)
   simp only [Int.natCast_zero] at f
   by_cases s1:(bg:Int)≤(k:Int)
   ·have s2: ¬(k:Int)≤(en:Int):=by omega
    exact ⟨_,_,by (simp_arith [hgp,s1,s2,eB]) <;> rfl,⟨sm++[0],rc.set k (r - 0),_,_,_,_,_,rfl,rfl,f⟩⟩
   ·exact ⟨_,_,by (simp_arith [hgp,s1,eB]) <;> rfl,⟨sm++[0],rc.set k (r - 0),_,_,_,_,_,rfl,rfl,f⟩⟩
 ·rintro s h' ⟨sm,rc,y7,y8,y9,y10,y11,rfl,rfl,hsl,hrc,hsw,hall,hrest⟩
  rw [List.length_range] at hsl
  exact ⟨sm,rc,by (simp_arith []) <;> rfl,hsl,hrc,hsw,hall⟩
noncomputable def yu (r:Rw):List zq:=[.inl r.1,.inl r.2.1,.inr r.2.2]
noncomputable def bkR (r:List zq):Rw:=match r with
 | [.inl a,.inl b,.inr c]=>(a,b,c)
 | _=>(0,0,"")
theorem zns (l:List Rw):zD row3 (l.map ze)=some (l.map yu):=zet (f:=row3) (g:=ze) (k:=yu) (fun p=>rfl) l
def Srt' (l:List Rw):Prop:=(l.map yu).Pairwise (fun a b=>lexK b a=false)
theorem zmb (s:S3) (h:H3) (f:Rf) (l:List Rw) (hf:rdl s h f=some (l.map ze)) (hl:l.length≤100000) (hne:l≠[]):qZ s h [f]=some (.m (.lst ((zk7 (l.map yu)).map fun r=>V3.tup (r.map kV3)))):=by
 have hi:zD int3 (l.map ze)=none:=by
  cases l with
  | nil=>exact absurd rfl hne
  | cons p l=>rfl
 have ha:ziw (l.map yu)=true:=by
  cases l with
  | nil=>exact absurd rfl hne
  | cons p l=>simp [ziw,ql,yu]
 unfold qZ zn2
 simp only [hf,hi,zns]
 rw [if_pos ⟨by rw [List.length_map];exact hl,ha⟩]
 rfl
theorem zhh: ∀{rs:List (List zq)} {l:List Rw},(∀r∈rs,∃p∈l,r=yu p)→∃qs:List Rw,rs=qs.map yu
 | [],_,_=>⟨[],rfl⟩
 | r::rs,l,h=>by
  obtain ⟨p,_,e⟩:=h r List.mem_cons_self
  obtain ⟨qs,e2⟩:=zhh (rs:=rs) (l:=l) fun x hx=>h x (List.mem_cons_of_mem _ hx)
  exact ⟨p::qs,by rw [e,e2];rfl⟩
theorem zmj (s:S3) (h:H3) (f:Rf) (hf:rdl s h f=some []):qZ s h [f]=some (.m (.lst [])):=by
 unfold qZ zn2
 simp [hf,zD,zrn]
theorem ztx (s:S3) (h:H3) (f:Rf) (l:List Rw) (hf:rdl s h f=some (l.map ze)) (hl:l.length≤100000): ∃rs:List Rw,qZ s h [f]=some (.m (.lst (rs.map ze)))∧rs.Perm l∧Srt' rs:=by
 by_cases hne:l=[]
 ·subst hne
  exact ⟨[],zmj s h f hf,.refl _,.nil⟩
 ·obtain ⟨h1,h2⟩:=zh0 (l.map yu)
  obtain ⟨qs,e⟩:=zhh (rs:=zk7 (l.map yu)) (l:=l) fun r hr=>by
   obtain ⟨q,hq,rfl⟩:=List.mem_map.1 (h1.mem_iff.1 hr);exact ⟨q,hq,rfl⟩
  have hp:qs.Perm l:=by
   have:=(e ▸ h1).map bkR
   rw [List.map_map,List.map_map] at this
   have e1:bkR∘yu=id:=rfl
   rw [e1,List.map_id,List.map_id] at this
   exact this
  refine ⟨qs,?_,hp,by unfold Srt';rw [←e];exact h2⟩
  rw [zmb s h f l hf hl hne,e,List.map_map]
  rfl
theorem zmw (s:S3) (h:H3) (f:Rf) (l:List Rw) (hf:rdl s h f=some (l.map ze)) (hl:l.length≤100000) (hs:Srt' l):qZ s h [f]=some (.m (.lst (l.map ze))):=by
 by_cases hne:l=[]
 ·subst hne;exact zmj s h f hf
 ·rw [zmb s h f l hf hl hne]
  have e:zk7 (l.map yu)=l.map yu:=by
   unfold zk7
   exact List.mergeSort_of_pairwise (hs.imp fun h=>by rw [h];rfl)
  rw [e,List.map_map]
  rfl
def lcB:D3:=(qi yV (pV 4) (aCons (pE (eTup (aCons (pE (eOp zi (pV 1) (pE (eOp zF (pV 8) (pV 2))))) (aCons (pE (eOp ya (pV 8) (pV 2))) (aCons (pE (eOp zr (pV 5) (pE (eC (.int 0))))) aNil))))) aNil))
theorem lc_w:za3=(zo (iR2 (aCons (pV 7) (aCons (pE (eOp zi (pV 7) (pV 6))) aNil))) (gN 8) lcB):=rfl
theorem zxt (f t pI:Int) (acc:List V3) (h1:0 < t) (h2:t < 1073741824) (ha:acc.length < sizeLine) (nm:Str) (q1 q2 q3 q4:V3) (x0 x3 x6 x7:Option Vl) (h:H3):
  lcB [x0,some (.v (.int f)),some (.v (.int t)),x3,some (.m (.lst acc)),some (.v (.tup [.str nm,q1,q2,q3,q4])),x6,x7,some (.v (.int pI))] h
   = .nx [x0,some (.v (.int f)),some (.v (.int t)),x3,some (.m (.lst (acc++[.tup [.int (f+pI % t),.int (pI / t),.str nm]]))),some (.v (.tup [.str nm,q1,q2,q3,q4])),x6,x7,some (.v (.int pI))] h:=by
 unfold lcB
 have hap:=mAppend_ok (y:= .tup [.int (f+pI % t),.int (pI / t),.str nm]) ha
 simp_arith [h1,h2,hap]
theorem zy6 (tI sI:Int) (h0:0≤tI∧tI≤1000) (h1:0≤sI∧sI≤1000) (x0 x1 x2 x3 x4 x5 x8:Option Vl) (h:H3):iR2 (aCons (pV 7) (aCons (pE (eOp zi (pV 7) (pV 6))) aNil)) [x0,x1,x2,x3,x4,x5,some (.v (.int sI)),some (.v (.int tI)),x8] h= .ok ⟨[],(List.range (tI+sI - tI).toNat).map fun k=> .int (tI+(k:Nat)),fun _=>True⟩ h:=by
 have q1: -(2 ^ 62)≤tI∧tI < 2 ^ 62∧ -(2 ^ 62)≤tI+sI∧tI+sI < 2 ^ 62:=by omega
 simp_arith [iR2,if_pos q1]
theorem zy2 (f:Int) (t:Nat) (h1:0 < t) (h2:t≤1000000) (base:List Rw) (st s:Nat) (hb:base.length+s≤1000) (hst:st≤1000) (nm:Str) (q1 q2 q3 q4:V3) (x0 x3 x8:Option Vl) (h:H3):
  ∃y8,za3 [x0,some (.v (.int f)),some (.v (.int (t:Int))),x3,some (.m (.lst (base.map ze))),some (.v (.tup [.str nm,q1,q2,q3,q4])),some (.v (.int (s:Int))),some (.v (.int (st:Int))),x8] h
   = .nx [x0,some (.v (.int f)),some (.v (.int (t:Int))),x3,some (.m (.lst ((base++(List.range s).map fun q=>Lay.row f t (st+q) nm).map ze))),some (.v (.tup [.str nm,q1,q2,q3,q4])),some (.v (.int (s:Int))),some (.v (.int (st:Int))),y8] h:=by
 rw [lc_w]
 obtain ⟨s',e,y8,rfl⟩:=zqd (it:=iR2 (aCons (pV 7) (aCons (pE (eOp zi (pV 7) (pV 6))) aNil))) (g:=gN 8) (b:=lcB) (s:=[x0,some (.v (.int f)),some (.v (.int (t:Int))),x3,some (.m (.lst (base.map ze))),some (.v (.tup [.str nm,q1,q2,q3,q4])),some (.v (.int (s:Int))),some (.v (.int (st:Int))),x8]) (h:=h) (its:=[]) (ok:=fun _=>True) (l:=List.range s) (enc:=fun k:Nat=> .int ((st:Int)+(k:Int))) (by
   have e:=zy6 (st:Int) (s:Int) (by omega+splitNatSub) (by omega+splitNatSub) x0 (some (.v (.int f))) (some (.v (.int (t:Int)))) x3 (some (.m (.lst (base.map ze)))) (some (.v (.tup [.str nm,q1,q2,q3,q4]))) x8 h
   rw [show ((st:Int)+(s:Int) - (st:Int)).toNat=s by omega+splitNatSub] at e
   exact e) trivial
  (fun i s'=> ∃y8,s'=[x0,some (.v (.int f)),some (.v (.int (t:Int))),x3,some (.m (.lst ((base++(List.range i).map fun q=>Lay.row f t (st+q) nm).map ze))),some (.v (.tup [.str nm,q1,q2,q3,q4])),some (.v (.int (s:Int))),some (.v (.int (st:Int))),y8]) ⟨x8,by rw [List.range_zero,List.map_nil,List.append_nil]⟩ (by
   rintro i k s' hi ⟨y8,rfl⟩
   obtain ⟨rfl,hk⟩:=zeq hi
   have run:=zxt f t ((st:Int)+(k:Int)) ((base++(List.range k).map fun q=>Lay.row f t (st+q) nm).map ze) (by omega+splitNatSub) (by omega+splitNatSub) (by rw [List.length_map,List.length_append,List.length_map,List.length_range];have:=yt;omega+splitNatSub) nm q1 q2 q3 q4 x0 x3 (some (.v (.int (s:Int)))) (some (.v (.int (st:Int)))) h
   refine ⟨_,run,⟨some (.v (.int ((st:Int)+(k:Int)))),?_⟩⟩
   have hl:(base++(List.range (k+1)).map fun q=>Lay.row f t (st+q) nm).map ze=(base++(List.range k).map fun q=>Lay.row f t (st+q) nm).map ze++[.tup [.int (f+((st:Int)+(k:Int)) % (t:Int)),.int (((st:Int)+(k:Int)) / (t:Int)),.str nm]]:=by
    have e:(List.range (k+1)).map (fun q=>Lay.row f t (st+q) nm)=(List.range k).map (fun q=>Lay.row f t (st+q) nm)++[Lay.row f t (st+k) nm]:=by rw [List.range_succ,List.map_append];rfl
    rw [e,←List.append_assoc,List.map_append (l₂:=[_])]
    rfl
   rw [hl])
 rw [List.length_range] at e
 exact ⟨y8,e⟩
theorem zlz: ∀(l:List (Str×Nat)) (i:Nat),Lay.tot (l.take i)≤Lay.tot l
 | [],i=>by simp
 | a::l,0=>Nat.zero_le _
 | a::l,i+1=>by
  rw [List.take_succ_cons,Lay.tot_cons,Lay.tot_cons]
  have:=zlz l i
  omega
def zU (js:List Jb) (o:List Nat):List (Str×Nat):=(js.zip o).map fun q=>(q.1.n,q.2)
theorem ztz (js:List Jb) (o:List Nat):((js.map Jb.enc).zip (o.map zC)).map (fun q=>V3.tup [q.1,q.2])=(js.zip o).map fun q=> .tup [q.1.enc,zC q.2]:=by
 rw [List.zip_map,List.map_map];rfl
theorem zxf (a b:V3) (x0 x1 x2 x3 y5 y6 y7 y8:Option Vl) (xs:List V3) (h:H3):gb (gT (gsCons (gN 5) (gsCons (gN 6) gsNil))) (sSeq (sSet 7 (eB bLen (aCons (pV 4) aNil))) za3) (.tup [a,b]) [x0,x1,x2,x3,some (.m (.lst xs)),y5,y6,y7,y8] h=za3 [x0,x1,x2,x3,some (.m (.lst xs)),some (.v a),some (.v b),some (.v (.int xs.length)),y8] h:=by
 simp_arith []
theorem zq4 (js:List Jb) (f:Int) (t:Nat) (h1:0 < t) (h2:t≤1000000) (o:List Nat) (ht:Lay.tot (zU js o)≤1000) (h:H3):f_laid_in_cell [.lst (js.map Jb.enc),.int f,.int (t:Int),.lst (o.map zC)] h= .ok (.m (.lst ((Lay.lic f t (zU js o) 0).map ze))) h:=by
 show Is h _ _
 unfold f_laid_in_cell zcz zce
 refine qM rfl ?_
 refine zP (by (simp_arith []) <;> rfl) ?_
 refine it_R (l:=js.zip o) (enc:=fun q:Jb×Nat=> .tup [q.1.enc,zC q.2]) (its:=[.lst (js.map Jb.enc),.lst (o.map zC)]) (ok:=fun _=>True∧True) (by (simp_arith [zmy,yj,ztz]) <;> rfl) ⟨trivial,trivial⟩ (fun i s=> ∃y5 y6 y7 y8,s=[some (.v (.lst (js.map Jb.enc))),some (.v (.int f)),some (.v (.int (t:Int))),some (.v (.lst (o.map zC))),some (.m (.lst ((Lay.lic f t (((js.zip o).take i).map fun q=>(q.1.n,q.2)) 0).map ze))),y5,y6,y7,y8]) ⟨none,none,none,none,rfl⟩ ?_ ?_
 ·rintro i q s hi ⟨y5,y6,y7,y8,rfl⟩
  have hb:Lay.tot (((js.zip o).take (i+1)).map fun q=>(q.1.n,q.2))≤1000:=by
   rw [List.map_take];exact Nat.le_trans (zlz _ _) ht
  rw [zb1 hi,List.map_append] at hb ⊢
  generalize ((js.zip o).take i).map (fun q=>(q.1.n,q.2))=l at hb ⊢
  have hl:=Lay.lic_len f t l 0
  have e0:Lay.lic f t (l++[q].map fun q=>(q.1.n,q.2)) 0=Lay.lic f t l 0++(List.range q.2).map fun p=>Lay.row f t ((Lay.lic f t l 0).length+p) q.1.n:=by
   rw [hl]
   have:=Lay.lic_snoc f t q.1.n q.2 l 0
   rw [Nat.zero_add] at this
   exact this
  have hb2:(Lay.lic f t l 0).length+q.2≤1000:=by
   rw [hl]
   have e:Lay.tot (l++[q].map fun q=>(q.1.n,q.2))=Lay.tot l+q.2:=by unfold Lay.tot;simp
   omega
  rw [e0]
  generalize Lay.lic f t l 0=base at hb2 ⊢
  obtain ⟨z8,e⟩:=zy2 f t h1 h2 base base.length q.2 hb2 (by omega) q.1.n (.int q.1.f) (.int q.1.l) (.int q.1.w) (.int q.1.b) (some (.v (.lst (js.map Jb.enc)))) (some (.v (.lst (o.map zC)))) y8 h
  generalize hB:((base.length:Nat):Int)=B at e
  generalize ((t:Nat):Int)=T at e ⊢
  refine ⟨[some (.v (.lst (js.map Jb.enc))),some (.v (.int f)),some (.v (.int T)),some (.v (.lst (o.map zC))),some (.m (.lst ((base++(List.range q.2).map fun p=>Lay.row f T (base.length+p) q.1.n).map ze))),some (.v (.tup [.str q.1.n,.int q.1.f,.int q.1.l,.int q.1.w,.int q.1.b])),some (.v (.int (q.2:Nat))),some (.v (.int B)),z8],?_,⟨_,_,_,_,rfl⟩⟩
  rw [zxf,List.length_map,hB]
  exact e
 ·rintro s ⟨y5,y6,y7,y8,rfl⟩
  rw [List.take_length]
  unfold Is
  (simp_arith []) <;> rfl
def yo (sh:List (List Nat)) (k:Nat):List Nat:=sh.map fun l=>l.getD k 0
def yG (js:List Jb) (sh:List (List Nat)) (ps:List Cl):List (Cl×List (Str×Nat)):=(List.range ps.length).map fun k=>(ps.getD k ⟨0,1,0⟩,zU js (yo sh k))
theorem zl2: ∀(L:List (Cl×List (Str×Nat))) (c:Cl) (l:List (Str×Nat)),Lay.raw (L++[(c,l)])=Lay.raw L++Lay.lic c.f c.t l 0
 | [],c,l=>by simp [Lay.raw]
 | (d,m)::L,c,l=>by
  show Lay.lic d.f d.t m 0++Lay.raw (L++[(c,l)])=Lay.lic d.f d.t m 0++Lay.raw L++_
  rw [zl2 L,List.append_assoc]
theorem zht: ∀(L:List (Cl×List (Str×Nat))),(Lay.raw L).length=(L.map fun cl=>Lay.tot cl.2).sum
 | []=>rfl
 | (d,m)::L=>by
  show (Lay.lic d.f d.t m 0++Lay.raw L).length=_
  rw [List.length_append,Lay.lic_len,zht L];rfl
abbrev zH (l:List Nat):V3:= .lst (l.map zC)
theorem zqe (sh:List (List Nat)) (k:Nat) (hk: ∀l∈sh,k < l.length) (hs:sh.length≤100) (x0 x1 x3 x5 x6:Option Vl) (h:H3):zfz [x0,x1,some (.v (.lst (sh.map zH))),x3,some (.v (.int (k:Int))),x5,x6] h= .ok (.m (.lst ((yo sh k).map zC))) h:=by
 unfold zfz yo
 rw [List.map_map]
 refine zc9 (x:= .lst (sh.map zH)) (enc:=zH) (fun s=> ∃a,s=[a,some (.v (.int (k:Int)))]) _ (by simp_arith []) rfl (by omega) ⟨none,rfl⟩ ?_
 rintro l s hl ⟨a,rfl⟩
 have hkl:=hk l hl
 have e:atI (l.map zC) (k:Int)=some (zC (l.getD k 0)):=qz (by rw [List.getElem?_map,zy hkl,List.getD_eq_getElem?_getD,zy hkl];rfl)
 exact ⟨_,_,by (simp_arith []) <;> rfl,⟨_,rfl⟩,by (simp_arith [e]) <;> rfl,rfl⟩
def zye (js:List Jb) (sh:List (List Nat)) (ps:List Cl) (h:H3) (R:Res Vl):Prop:=∃rs:List Rw,R= .ok (.m (.lst (rs.map ze))) h∧rs.Perm (Lay.raw (yG js sh ps))∧Srt' rs
theorem zob (js:List Jb) (sh:List (List Nat)) (ps:List Cl) (hp: ∀c∈ps,0 < c.t∧c.t≤1000000) (hsh: ∀l∈sh,l.length=ps.length) (hs:sh.length≤100) (hr:(Lay.raw (yG js sh ps)).length≤1000) (h:H3):zye js sh ps h (f_laid [.lst (js.map Jb.enc),.lst (ps.map zn),.lst (sh.map zH)] h):=by
 unfold f_laid zqg zim
 refine qM rfl ?_
 refine zP (by (simp_arith []) <;> rfl) ?_
 refine it_R (l:=List.range ps.length) (enc:=fun k:Nat=> .tup [.int k,(ps.map zn).getD k .non]) (its:=[.lst (ps.map zn)]) (ok:=fun _=>True) (by (simp_arith [qy,yj,List.length_map]) <;> rfl) trivial
  (fun i s=> ∃y4 y5 y6,s=[some (.v (.lst (js.map Jb.enc))),some (.v (.lst (ps.map zn))),some (.v (.lst (sh.map zH))),some (.m (.lst ((Lay.raw ((yG js sh ps).take i)).map ze))),y4,y5,y6]) ⟨none,none,none,rfl⟩ ?_ ?_
 ·rintro i k s hi ⟨y4,y5,y6,rfl⟩
  obtain ⟨rfl,hil⟩:=zeq hi
  have hpi:ps[k]? =some ps[k]:=zy hil
  have hgd:ps.getD k ⟨0,1,0⟩=ps[k]:=by rw [List.getD_eq_getElem?_getD,hpi];rfl
  have hc:=hp _ (List.getElem_mem hil)
  have hLi:(yG js sh ps)[k]? =some (ps[k],zU js (yo sh k)):=by
   unfold yG
   rw [List.getElem?_map,List.getElem?_range hil]
   show some (ps.getD k ⟨0,1,0⟩,_)=_
   rw [hgd]
  generalize ps[k]=c at hpi hc hLi
  have hlen:(Lay.raw ((yG js sh ps).take (k+1))).length≤1000:=by
   refine Nat.le_trans ?_ hr
   have e:=List.take_append_drop (k+1) (yG js sh ps)
   rw [zht,zht]
   conv=>rhs;rw [←e,List.map_append,List.sum_append]
   omega
  rw [zb1 hLi,zl2] at hlen ⊢
  rw [List.length_append] at hlen
  have hl:=zq4 js c.f c.t hc.1 hc.2 (yo sh k) (by rw [Lay.lic_len] at hlen;omega) h
  generalize Lay.lic c.f c.t (zU js (yo sh k)) 0=new at hl hlen ⊢
  generalize Lay.raw ((yG js sh ps).take k)=old at hlen ⊢
  obtain ⟨cl,hcl⟩: ∃cl:Int,c.f+(c.t:Int) - 1=cl:=⟨_,rfl⟩
  have hgp:(ps.map zn).getD k .non= .tup [.int c.f,.int cl,.int c.m]:=by rw [List.getD_eq_getElem?_getD,List.getElem?_map,hpi,←hcl];rfl
  rw [show (c.t:Int)=cl - c.f+1 by omega] at hl
  have hcp:=zqe sh k (fun l hl=>by rw [hsh l hl];exact hil) hs
  have hex:zgr (old.map ze) [.lst (new.map ze)]=some (old.map ze++new.map ze,.non):=by
   unfold zgr
   simp only [List.length_map]
   rw [if_pos (by have:=yt;omega)]
  exact ⟨_,by (simp_arith [hgp,hcp,hl,hex]) <;> rfl,⟨_,_,_,by rw [List.map_append]⟩⟩
 ·rintro s ⟨y4,y5,y6,rfl⟩
  rw [List.length_range,show ps.length=(yG js sh ps).length by unfold yG;simp,List.take_length]
  obtain ⟨rs,e,hpm,hst⟩:=ztx [some (.v (.lst (js.map Jb.enc))),some (.v (.lst (ps.map zn))),some (.v (.lst (sh.map zH))),some (.m (.lst ((Lay.raw (yG js sh ps)).map ze))),y4,y5,y6] h (.s 3) _ rfl (by omega)
  exact ⟨rs,by (simp_arith [e]) <;> rfl,hpm,hst⟩
structure Good (js:List Jb) (A:Int→Int) (pl:List Rw):Prop where
 nd:(pl.map fun r=>(r.1,r.2.1)).Nodup
 one: ∀r∈pl,∃j,fj js r.2.2=some j∧(j.f≤r.1∧r.1≤j.l)∧(0≤r.2.1∧r.2.1 < A r.1)∧((qx pl r.1 r.2.2).length:Int)≤j.b∧((own pl r.2.2).length:Int)≤j.w
theorem zma {a b:List Rw} (h:a.Perm b) (z:Str):(own a z).Perm (own b z):=h.filter _
theorem zr6 {a b:List Rw} (h:a.Perm b) (t:Int) (z:Str):(qx a t z).Perm (qx b t z):=(zma h z).filter _
theorem Good.perm {js:List Jb} {A:Int→Int} {a b:List Rw} (g:Good js A a) (h:a.Perm b):Good js A b:=⟨(h.map _).nodup_iff.1 g.nd,fun r hr=>by
 obtain ⟨j,h1,h2,h3,h4,h5⟩:=g.one r (h.mem_iff.2 hr)
 exact ⟨j,h1,h2,h3,by rw [←(zr6 h r.1 r.2.2).length_eq];exact h4,by rw [←(zma h r.2.2).length_eq];exact h5⟩⟩
theorem zte {js:List Jb} {A:Int→Int} {pl:List Rw} (g:Good js A pl) {i:Nat} {r:Rw} (hi:pl[i]? =some r):wd (fj js r.2.2) (A r.1) (pl.take i) r= .non:=by
 have hsp:pl=pl.take i++r::pl.drop (i+1):=by rw [←zd0 hi,List.take_append_drop]
 obtain ⟨j,h1,h2,h3,h4,h5⟩:=g.one r (List.mem_of_getElem? hi)
 have hown:(own (pl.take i) r.2.2).length+1≤(own pl r.2.2).length:=by
  conv=>rhs;rw [hsp]
  unfold own
  rw [List.filter_append,List.filter_cons_of_pos (by simp),List.length_append,List.length_cons];omega
 have hnow:(qx (pl.take i) r.1 r.2.2).length+1≤(qx pl r.1 r.2.2).length:=by
  conv=>rhs;rw [hsp]
  unfold qx own
  rw [List.filter_append,List.filter_cons_of_pos (by simp),List.filter_append,List.filter_cons_of_pos (by simp),List.length_append,List.length_cons];omega
 have htk:tkn (pl.take i) r.1 r.2.1=false:=by
  unfold tkn
  rw [List.any_eq_false]
  intro q hq e
  simp only [Bool.and_eq_true,decide_eq_true_eq] at e
  have hn:=g.nd
  rw [hsp,List.map_append,List.nodup_append] at hn
  exact hn.2.2 (q.1,q.2.1) (List.mem_map_of_mem (f:=fun r:Rw=>(r.1,r.2.1)) hq) (r.1,r.2.1) (by rw [List.map_cons];exact List.mem_cons_self) (by rw [e.1,e.2])
 unfold wd
 rw [h1]
 simp only []
 rw [if_pos h2,if_pos h3,if_neg (by rw [htk];simp),if_neg (by omega),if_neg (by omega)]
theorem zlt {js:List Jb} {A:Int→Int} {pl:List Rw} (g:Good js A pl): ∀i,qK js A pl i=[]
 | 0=>rfl
 | i+1=>by
  show qK js A pl i++_=[]
  rw [zlt g i]
  cases hi:pl[i]? with
  | none=>rfl
  | some r=>simp only [zte g hi,List.nil_append]
theorem zp1 (pl:List Rw) (z:Str):(own pl z).length=pl.countP fun r=>decide (r.2.2=z):=by unfold own;rw [List.countP_eq_length_filter]
theorem zqf (pl:List Rw) (t:Int) (z:Str):(qx pl t z).length=pl.countP fun r=>decide (r.1=t) && decide (r.2.2=z):=by
 unfold qx own;rw [List.filter_filter,List.countP_eq_length_filter]
structure Laid (js:List Jb) (A:Int→Int) (L:List (Cl×List (Str×Nat))):Prop where
 ch:Lay.Chain (L.map (·.1))
 nd: ∀cl∈L,(cl.2.map (·.1)).Nodup
 job: ∀cl∈L,∀a∈cl.2,∃j,fj js a.1=some j
 win: ∀cl∈L,∀a∈cl.2,0 < a.2→∀j,fj js a.1=some j→j.f≤cl.1.f∧cl.1.f+cl.1.t - 1≤j.l
 br: ∀cl∈L,∀a∈cl.2,∀j,fj js a.1=some j→0≤j.b∧a.2≤j.b.toNat*cl.1.t
 rm: ∀cl∈L,(Lay.tot cl.2:Int)≤cl.1.m*cl.1.t
 at_: ∀cl∈L,∀t,cl.1.f≤t→t < cl.1.f+cl.1.t→A t=cl.1.m
 wk: ∀z j,fj js z=some j→((L.map fun cl=>Lay.shr cl.2 z).sum:Int)≤j.w
theorem Laid.good {js:List Jb} {A:Int→Int} {L:List (Cl×List (Str×Nat))} (g:Laid js A L):Good js A (Lay.raw L):=⟨Lay.raw_nodup g.ch,fun r hr=>by
 obtain ⟨cl,hcl,hl⟩:=Lay.raw_mem hr
 have ht:=g.ch.pos cl.1 (List.mem_map_of_mem hcl)
 obtain ⟨p,n,s,h1,h2,h3,h4,rfl⟩:=Lay.lic_mem hl
 have hin:=Lay.row_in (f:=cl.1.f) (p:=p) (n:=n) ht
 obtain ⟨j,hj⟩:=g.job cl hcl _ h1
 have hw:=g.win cl hcl _ h1 h2 j hj
 refine ⟨j,hj,⟨by omega,by omega⟩,⟨?_,?_⟩,?_,?_⟩
 ·exact Int.ediv_nonneg (by omega) (by omega)
 ·rw [g.at_ cl hcl _ hin.1 hin.2]
  have hm:=g.rm cl hcl
  refine Int.ediv_lt_of_lt_mul (by omega) ?_
  omega
 ·rw [zqf]
  have hb0:=(g.br cl hcl _ h1 j hj).1
  have:=Lay.raw_turn (Lay.row cl.1.f cl.1.t p n).1 n j.b.toNat g.ch fun dl hdl=>⟨g.nd dl hdl,fun a ha e=>(g.br dl hdl a ha j (by rw [e];exact hj)).2⟩
  show ((List.countP (fun r=>decide (r.1=(Lay.row cl.1.f cl.1.t p n).1) && decide (r.2.2=n)) (Lay.raw L):Nat):Int)≤j.b
  omega
 ·rw [zp1]
  show ((List.countP (fun r=>decide (r.2.2=n)) (Lay.raw L):Nat):Int)≤j.w
  rw [Lay.raw_cnt]
  exact g.wk n j hj⟩
theorem zoy {α:Type} {n:Nat} {fr:List Nat} {it:I3} {g:G3} {c:T3} {e:E3} {s:S3} {h:H3} {its:List V3} {ok:H3→Prop} {enc:α→V3} {l:List α} (I:S3→Prop) (q:α→Bool) (f:α→V3) (ei:it s h= .ok ⟨its,l.map enc,ok⟩ h) (hok:ok h)
  (hl:l.length≤1000000) (h0:I (yB n fr s)) (step: ∀a s,a∈l→I s→∃s1,g (enc a) s=some s1∧I s1∧c s1 h= .ok (q a) h∧(q a=true→∃r,e s1 h= .ok r h∧r.fz=some (f a))):
  yS n fr it g c e s h= .ok (.m (.lst ((l.filter q).map f))) h:=by
 have:=zgw (ok:=ok) (g:=g) (c:=c) (e:=e) (h:=h) I enc q f hok (l:=l) (by have:=yt;omega) step h0
 unfold yS
 simp only [ei,Res.bind,this]
def pk (r:Rw):MK:= .tup [.inl r.1,.inl r.2.1]
def sk (r:Rw):MK:= .tup [.inl r.1,.inr r.2.2]
structure Sts (kvs:List (MK×V3)) (l:List Rw):Prop where
 val: ∀k,zw kvs k=if k∈l.map pk then some (.bl true) else none
 len:kvs.length≤l.length
theorem Sts.put {kvs:List (MK×V3)} {l:List Rw} (s:Sts kvs l) (r:Rw):Sts (put3 kvs (pk r) (.bl true)) (l++[r]):=⟨fun k=>by
 rw [zfv,s.val,List.map_append]
 by_cases h:k=pk r
 ·rw [if_pos h,if_pos (by rw [h];simp)]
 ·rw [if_neg h]
  by_cases h2:k∈l.map pk
  ·rw [if_pos h2,if_pos (List.mem_append_left _ h2)]
  ·rw [if_neg h2,if_neg (by rw [List.mem_append];rintro (z | z);exact h2 z;exact h (by simpa using z))],by
 have:=zfx kvs (pk r) (.bl true)
 have:=s.len
 rw [List.length_append,List.length_singleton];omega⟩
structure Br (kvs:List (MK×V3)) (js:List Jb):Prop where
 val: ∀z,zw kvs (.one (.inr z))=(fj js z).map fun j=> .int j.b
 len:kvs.length≤js.length
theorem zkn {js:List Jb} {A:Int→Int} {pl:List Rw} (g:Good js A pl) (hl:pl.length≤1000) (hj:js.length≤1000) (h:H3):f_law_seated [.lst (pl.map ze),.lst (js.map Jb.enc)] h= .ok (.v (.bl true)) h:=by
 show Is h _ _
 unfold f_law_seated zdu zc1 zc4
 refine qM rfl ?_
 refine zP (by (simp_arith []) <;> rfl) ?_
 refine zP (by (simp_arith []) <;> rfl) ?_
 refine zf5 (x:= .lst (pl.map ze)) (l:=pl) (enc:=ze) (by simp_arith []) rfl (fun i s=> ∃k2 k3 y4 y5 y6,s=[some (.v (.lst (pl.map ze))),some (.v (.lst (js.map Jb.enc))),some (.m (.dT k2)),some (.m (.dT k3)),y4,y5,y6,none,none]∧Sts k2 (pl.take i)∧Cnt k3 ((pl.take i).map sk)) ⟨[],[],none,none,none,rfl,⟨fun k=>by simp [zw],Nat.le_refl _⟩,Cnt.nil⟩ ?_ ?_
 ·rintro i r s hi ⟨k2,k3,y4,y5,y6,rfl,hs,hc⟩
  have hil:i < pl.length:=(List.getElem?_eq_some_iff.1 hi).1
  have hsp:pl=pl.take i++r::pl.drop (i+1):=by rw [←zd0 hi,List.take_append_drop]
  have hno:zw k2 (pk r)=none:=by
   rw [hs.val,if_neg]
   intro z
   obtain ⟨q,hq,e⟩:=List.mem_map.1 z
   have hn:=g.nd
   rw [hsp,List.map_append,List.nodup_append] at hn
   have e2:q.1=r.1∧q.2.1=r.2.1:=by unfold pk at e;simpa using e
   exact hn.2.2 (q.1,q.2.1) (List.mem_map_of_mem (f:=fun r:Rw=>(r.1,r.2.1)) hq) (r.1,r.2.1) (by rw [List.map_cons];exact List.mem_cons_self) (by rw [e2.1,e2.2])
  have hno':zw k2 (MK.tup [Sum.inl r.1,Sum.inl r.2.1])=none:=hno
  have hg:(zw k3 (MK.tup [Sum.inl r.1,Sum.inr r.2.2])).getD (.int 0)= .int (((pl.take i).map sk).count (sk r)):=hc.getD (sk r)
  have l2:k2.length < sizeLine:=by have:=hs.len;rw [List.length_take] at this;have:=yt;omega
  have l3:k3.length < sizeLine:=by have:=hc.len;rw [List.length_map,List.length_take] at this;have:=yt;omega
  have p2:=hs.put r
  have p3:=hc.put (sk r)
  rw [zb1 hi,List.map_append]
  generalize (((pl.take i).map sk).count (sk r):Int)=cI at hg p3
  refine ⟨_,by (simp_arith [qS,qG,oDIn,yp,C3.dc,Dc.get,Dc.put,Dc.c,Dc.len,qu,zD,yx,Option.map_some,hno',Option.isSome_none,hg,l2,l3]) <;> rfl,⟨_,_,_,_,_,rfl,p2,p3⟩⟩
 ·rintro s ⟨k2,k3,y4,y5,y6,rfl,hs,hc⟩
  rw [List.take_length] at hs hc
  refine zP (by (simp_arith [eDnT]) <;> rfl) ?_
  refine zf5 (x:= .lst (js.map Jb.enc)) (l:=js) (enc:=Jb.enc) (by simp_arith []) rfl (fun i s=> ∃kb y8,s=[some (.v (.lst (pl.map ze))),some (.v (.lst (js.map Jb.enc))),some (.m (.dT k2)),some (.m (.dT k3)),y4,y5,y6,some (.m (.dT kb)),y8]∧Br kb (js.take i)) ⟨[],none,rfl,⟨fun z=>by simp [zw,fj],Nat.le_refl _⟩⟩ ?_ ?_
  ·rintro i j s hi ⟨kb,y8,rfl,b⟩
   have lb:kb.length < sizeLine:=by
    have h1:=b.len
    rw [List.length_take] at h1
    have:=yt;omega
   refine ⟨_,by (simp_arith [qS,yp,C3.dc,Dc.put,Dc.c,Dc.len,qu,Option.map_some,lb]) <;> rfl,⟨_,_,rfl,?_⟩⟩
   rw [zb1 hi]
   refine ⟨fun z=>?_,?_⟩
   ·rw [zfv,zn4,b.val]
    by_cases hz:z=j.n
    ·rw [if_pos hz,if_pos (by rw [hz])];rfl
    ·rw [if_neg hz,if_neg fun e=>hz (Sum.inr.inj (MK.one.inj e))]
   ·have h1:=zfx kb (.one (.inr j.n)) (.int j.b)
    have h2:=b.len
    rw [List.length_append,List.length_singleton];omega
  ·rintro s ⟨kb,y8,rfl,b⟩
   rw [List.take_length] at b
   refine zP (by (simp_arith []) <;> rfl) ?_
   refine zP (by (simp_arith []) <;> rfl) ?_
   have hcomp:zcd [some (.v (.lst (pl.map ze))),some (.v (.lst (js.map Jb.enc))),some (.m (.dT k2)),some (.v (.dT k3)),y4,y5,y6,some (.v (.dT kb)),y8] h= .ok (.m (.lst ((k3.filter fun _=>false).map fun kv=>mkV3 kv.1))) h:=by
    unfold zcd
    refine zoy (l:=k3) (enc:=fun kv=>mkV3 kv.1) (its:=[.dT k3]) (ok:=fun _=>True) (fun s=> ∃a,s=[a,some (.v (.dT k3)),some (.v (.dT kb))]) _ _ (by (simp_arith [iD]) <;> rfl) trivial (by have:=hc.len;rw [List.length_map] at this;omega) ⟨none,rfl⟩ ?_
    rintro kv s hkv ⟨a,rfl⟩
    have hsome:(zw k3 kv.1).isSome=true:=by
     unfold zw
     rw [Option.isSome_map,List.find?_isSome]
     exact ⟨kv,hkv,by simp⟩
    have hpos:0 < (pl.map sk).count kv.1:=by rw [hc.isSome] at hsome;exact of_decide_eq_true hsome
    obtain ⟨r,hr,hk⟩:=List.mem_map.1 (List.count_pos_iff.1 hpos)
    obtain ⟨j,h1,h2,h3,h4,h5⟩:=g.one r hr
    have hv:zw k3 (MK.tup [Sum.inl r.1,Sum.inr r.2.2])=some (.int ((pl.map sk).count (sk r))):=by
     have:=hc.val (sk r)
     rw [if_neg (by rw [hk];omega)] at this
     exact this
    have hcnt:(pl.map sk).count (sk r)=(qx pl r.1 r.2.2).length:=by
     rw [zqf,List.count_eq_countP,List.countP_map]
     refine List.countP_congr fun q _=>?_
     simp [sk]
    have hbv:zw kb (MK.one (Sum.inr r.2.2))=some (.int j.b):=by rw [b.val,h1];rfl
    rw [←hk]
    rw [←hcnt] at h4
    generalize ((pl.map sk).count (sk r):Int)=cI at hv h4
    have hnot: ¬j.b < cI:=by omega
    have hmk:mkV3 (sk r)= .tup [.int r.1,.str r.2.2]:=rfl
    exact ⟨_,by (simp_arith []) <;> rfl,⟨_,rfl⟩,by (simp_arith [hmk,znf,yp,Dc.get,qu,zD,yx,Option.map_some,hv,hbv,hnot]) <;> rfl,fun z=>absurd z (by decide)⟩
   have hnil:(k3.filter fun _=>false).map (fun kv=>mkV3 kv.1)=[]:=by simp
   rw [hnil] at hcomp
   have heq: ∀s:S3,yO s h (.x (.lst [])) (.x (.lst []))=some (.v (.bl true)):=fun s=>zu0 zpl
   unfold Is
   (simp_arith [hcomp,heq]) <;> rfl
def trn (rs:List Rw) (z:Str):List Int:=(rs.filter fun r=>decide (r.2.2=z)).map (·.1)
theorem zzq {rs:List Rw} (hl:rs.length≤1000) (z:Str) {x:V3} {h:H3} (hx:IsL h x (rs.map ze)):f_turns_worked [x,.str z] h= .ok (.m (.lst ((trn rs z).map .int))) h:=by
 obtain ⟨ok,hw⟩:=hx.walk
 have hc:zbo [some (.v x),some (.v (.str z))] h= .ok (.m (.lst ((trn rs z).map .int))) h:=by
  unfold zbo trn
  rw [List.map_map]
  refine zk8 (x:=x) (enc:=ze) (fun s=> ∃a,s=[a,some (.v (.str z))]) _ _ (by simp_arith []) hw (by omega) ⟨none,rfl⟩ ?_
  rintro r s _ ⟨a,rfl⟩
  exact ⟨_,by (simp_arith []) <;> rfl,⟨_,rfl⟩,by (simp_arith [zgb]) <;> rfl,fun _=>⟨_,by (simp_arith []) <;> rfl,rfl⟩⟩
 simp_arith [f_turns_worked,zc3,hc]
def und (js:List Jb) (rs:List Rw):List Int:=js.map fun j=>max 0 (j.w - (trn rs j.n).length)
theorem zy9 {js:List Jb} {rs:List Rw} (hj:js.length≤1000) (hl:rs.length≤1000) {x:V3} {h:H3} (hx:IsL h x (rs.map ze)):f_undone [.lst (js.map Jb.enc),x] h= .ok (.m (.lst ((und js rs).map .int))) h:=by
 have hc:zd5 [some (.v (.lst (js.map Jb.enc))),some (.v x)] h= .ok (.m (.lst ((und js rs).map .int))) h:=by
  unfold zd5 und
  rw [List.map_map]
  refine zc9 (x:= .lst (js.map Jb.enc)) (enc:=Jb.enc) (fun s=> ∃a,s=[a,some (.v x)]) _ (by simp_arith []) rfl (by omega) ⟨none,rfl⟩ ?_
  rintro j s _ ⟨a,rfl⟩
  exact ⟨_,_,by (simp_arith []) <;> rfl,⟨_,rfl⟩,by (simp_arith [zzq hl _ hx,List.length_map]) <;> rfl,rfl⟩
 simp_arith [f_undone,zii,hc]
theorem zt6 (rs:List Rw) (z:Str):(trn rs z).length=(own rs z).length:=by unfold trn own;rw [List.length_map]
noncomputable def inC (c:Cl) (r:Rw):Bool:=decide (c.f≤r.1) && decide (r.1≤c.f+c.t - 1)
theorem zle (z:Str): ∀{L:List (Cl×List (Str×Nat))},Lay.Chain (L.map (·.1))→∀{i:Nat} {cl:Cl×List (Str×Nat)},L[i]? =some cl→(Lay.raw L).countP (fun r=>decide (r.2.2=z) && inC cl.1 r)=Lay.shr cl.2 z
 | [],_,i,cl,h=>by simp at h
 | (d,m)::L,hch,0,cl,h=>by
  have e:(d,m)=cl:=by simpa using h
  subst e
  show (Lay.lic d.f d.t m 0++Lay.raw L).countP _=_
  rw [List.countP_append]
  have h0:(Lay.raw L).countP (fun r=>decide (r.2.2=z) && inC d r)=0:=by
   rw [List.countP_eq_zero]
   intro r hr e
   obtain ⟨cl,h1,h2⟩:=Lay.raw_mem hr
   have b2:=Lay.lic_in (hch.2.2.pos cl.1 (List.mem_map_of_mem h1)) h2
   have b3:d.f+d.t≤cl.1.f:=hch.2.1 _ (List.mem_map_of_mem h1)
   simp [inC] at e
   omega
  rw [h0,Nat.add_zero,←Lay.lic_cnt d.f d.t z m 0]
  refine List.countP_congr fun r hr=>?_
  have b1:=Lay.lic_in hch.1 hr
  have b1:d.f≤r.1∧r.1 < d.f+d.t:=b1
  simp only [inC,Bool.and_eq_true,decide_eq_true_eq]
  exact ⟨fun h=>h.1,fun h=>⟨h,by omega,by omega⟩⟩
 | (d,m)::L,hch,i+1,cl,h=>by
  have h:L[i]? =some cl:=by simpa using h
  show (Lay.lic d.f d.t m 0++Lay.raw L).countP _=_
  rw [List.countP_append,zle z hch.2.2 h]
  have h0:(Lay.lic d.f d.t m 0).countP (fun r=>decide (r.2.2=z) && inC cl.1 r)=0:=by
   rw [List.countP_eq_zero]
   intro r hr e
   have b1:=Lay.lic_in hch.1 hr
   have b1:d.f≤r.1∧r.1 < d.f+d.t:=b1
   have b3:d.f+d.t≤cl.1.f:=hch.2.1 _ (List.mem_map_of_mem (List.mem_of_getElem? h))
   simp [inC] at e
   omega
  rw [h0,Nat.zero_add]
theorem zik: ∀{js:List Jb} {o:List Nat},(js.map Jb.n).Nodup→js.length=o.length→∀{i:Nat} {j:Jb} {x:Nat},js[i]? =some j→o[i]? =some x→Lay.shr (zU js o) j.n=x
 | [],_,_,_,i,j,x,h,_=>by simp at h
 | a::js,[],_,hl,_,_,_,_,_=>by simp at hl
 | a::js,y::o,hn,hl,i,j,x,h1,h2=>by
  rw [List.map_cons,List.nodup_cons] at hn
  have hl:js.length=o.length:=by simpa using hl
  have e:zU (a::js) (y::o)=(a.n,y)::zU js o:=rfl
  rw [e]
  unfold Lay.shr
  cases i with
  | zero=>
   have e1:a=j:=by simpa using h1
   have e2:y=x:=by simpa using h2
   subst e1;subst e2
   rw [List.filter_cons_of_pos (by simp)]
   have h0:(zU js o).filter (fun b=>decide (b.1=a.n))=[]:=by
    rw [List.filter_eq_nil_iff]
    intro b hb e
    have e:b.1=a.n:=of_decide_eq_true e
    unfold zU at hb
    obtain ⟨q,hq,rfl⟩:=List.mem_map.1 hb
    exact hn.1 (by rw [←e];exact List.mem_map_of_mem (f:=Jb.n) (List.of_mem_zip hq).1)
   rw [h0];simp
  | succ i=>
   have h1:js[i]? =some j:=by simpa using h1
   have h2:o[i]? =some x:=by simpa using h2
   have hne: ¬a.n=j.n:=fun e=>hn.1 (by rw [e];exact List.mem_map_of_mem (List.mem_of_getElem? h1))
   rw [List.filter_cons_of_neg (by simpa using hne)]
   exact zik hn.2 hl h1 h2
def yI (pl:List Rw) (nm:Str) (cf cl:Int):List Rw:=pl.filter fun r=>decide (r.2.2=nm) && (decide (cf≤r.1) && decide (r.1≤cl))
theorem zyd {pl:List Rw} (hl:pl.length≤1000) (cf cl cm:Int) (nm:Str) (q1 q2 q3 q4:V3) (x1 x2 x3 x4 x6 x8:Option Vl) (h:H3):zbf [some (.v (.lst (pl.map ze))),x1,x2,x3,x4,some (.v (.tup [.str nm,q1,q2,q3,q4])),x6,some (.v (.tup [.int cf,.int cl,.int cm])),x8] h= .ok (.m (.lst ((yI pl nm cf cl).map ze))) h:=by
 unfold zbf yI
 refine zk8 (x:= .lst (pl.map ze)) (enc:=ze) (fun s=> ∃a,s=[a,some (.v (.tup [.str nm,q1,q2,q3,q4])),some (.v (.tup [.int cf,.int cl,.int cm]))]) _ _ (by simp_arith []) rfl (by omega) ⟨none,rfl⟩ ?_
 rintro r s _ ⟨a,rfl⟩
 refine ⟨_,by (simp_arith []) <;> rfl,⟨_,rfl⟩,?_,fun _=>⟨_,by (simp_arith []) <;> rfl,rfl⟩⟩
 by_cases h1:r.2.2=nm
 ·by_cases h2:cf≤r.1
  ·by_cases h3:r.1≤cl
   ·(simp_arith [zgb,h1,h2,h3]) <;> rfl
   ·(simp_arith [zgb,h1,h2,h3]) <;> rfl
  ·(simp_arith [zgb,h1,h2]) <;> rfl
 ·(simp_arith [zgb,h1]) <;> rfl
theorem zxl {ms:List Rw} (hl:ms.length≤1000) (cf cl cm:Int) (hm: ∀r∈ms,0≤r.2.1∧r.2.1 < cm) (x0 x1 x2 x3 x4 x5 x6:Option Vl) (h:H3):zbe [x0,x1,x2,x3,x4,x5,x6,some (.v (.tup [.int cf,.int cl,.int cm])),some (.v (.lst (ms.map ze)))] h= .ok (.m (.lst [])) h:=by
 unfold zbe
 have:=zk8 (n:=1) (fr:=[7]) (p:=pV 8) (g:=gN 0) (c:=tNot3 (tE (eChain qt oLt (pE (eC (.int 0))) (pE (eOp zr (pV 0) (pE (eC (.int 1))))) (pE (eOp zr (pV 1) (pE (eC (.int 2)))))))) (e:=eV 0) (s:=[x0,x1,x2,x3,x4,x5,x6,some (.v (.tup [.int cf,.int cl,.int cm])),some (.v (.lst (ms.map ze)))]) (h:=h) (x:= .lst (ms.map ze)) (enc:=ze) (l:=ms) (fun s=> ∃a,s=[a,some (.v (.tup [.int cf,.int cl,.int cm]))]) (fun _=>false) ze (by simp_arith []) rfl (by omega) ⟨none,rfl⟩ (by
  rintro r s hr ⟨a,rfl⟩
  obtain ⟨h1,h2⟩:=hm r hr
  exact ⟨_,by (simp_arith []) <;> rfl,⟨_,rfl⟩,by (simp_arith [h1,h2]) <;> rfl,fun z=>absurd z (by decide)⟩)
 rw [this];simp
theorem zwh {pl:List Rw} (hl:pl.length≤1000) (ps:List Cl) (sh:List (List Nat)) (jn:Nat) (sj:List Nat) (hsj:sh[jn]? =some sj) (nm:Str) (q1 q2 q3 q4:V3)
  (hc: ∀(k:Nat) (c:Cl),ps[k]? =some c→∃x,sj[k]? =some x∧(yI pl nm c.f (c.f+c.t - 1)).length=x∧∀r∈yI pl nm c.f (c.f+c.t - 1),0≤r.2.1∧r.2.1 < c.m) (x1 x6 x7 x8:Option Vl) (h:H3):
  ∃y6 y7 y8,zb7 [some (.v (.lst (pl.map ze))),x1,some (.v (.lst (ps.map zn))),some (.v (.lst (sh.map zH))),some (.v (.int (jn:Int))),some (.v (.tup [.str nm,q1,q2,q3,q4])),x6,x7,x8] h
   = .nx [some (.v (.lst (pl.map ze))),x1,some (.v (.lst (ps.map zn))),some (.v (.lst (sh.map zH))),some (.v (.int (jn:Int))),some (.v (.tup [.str nm,q1,q2,q3,q4])),y6,y7,y8] h:=by
 have e1:atI (sh.map zH) (jn:Int)=some (zH sj):=qz (by rw [List.getElem?_map,hsj];rfl)
 generalize (jn:Int)=jI at e1 ⊢
 unfold zb7
 obtain ⟨s',e,y6,y7,y8,rfl⟩:=zqd (it:=qy (aCons (pV 2) aNil)) (g:=gT (gsCons (gN 6) (gsCons (gN 7) gsNil))) (b:=(sSeq (sSet 8 zbf) (sSeq (sFz 8) (sIf (tOr3 (tE (eOp qd (pE (eB bLen (aCons (pV 8) aNil))) (pE (eOp zr (pE (eOp zr (pV 3) (pV 4))) (pV 6))))) (tE (eOp oGt (pE (eB bLen (aCons (pE zbe) aNil))) (pE (eC (.int 0)))))) (sRet (eC (.bl false))) sSkip)))) (s:=[some (.v (.lst (pl.map ze))),x1,some (.v (.lst (ps.map zn))),some (.v (.lst (sh.map zH))),some (.v (.int jI)),some (.v (.tup [.str nm,q1,q2,q3,q4])),x6,x7,x8]) (h:=h) (its:=[.lst (ps.map zn)]) (ok:=fun _=>True) (l:=List.range ps.length) (enc:=fun k:Nat=> .tup [.int k,(ps.map zn).getD k .non]) (by (simp_arith [qy,yj,List.length_map]) <;> rfl) trivial
  (fun i s=> ∃y6 y7 y8,s=[some (.v (.lst (pl.map ze))),x1,some (.v (.lst (ps.map zn))),some (.v (.lst (sh.map zH))),some (.v (.int jI)),some (.v (.tup [.str nm,q1,q2,q3,q4])),y6,y7,y8]) ⟨_,_,_,rfl⟩ (by
   rintro i k s hi ⟨y6,y7,y8,rfl⟩
   obtain ⟨rfl,hil⟩:=zeq hi
   have hpi:ps[k]? =some ps[k]:=zy hil
   generalize ps[k]=c at hpi
   obtain ⟨x,hx,hlen,hall⟩:=hc k c hpi
   obtain ⟨cl,hcl⟩: ∃cl:Int,c.f+(c.t:Int) - 1=cl:=⟨_,rfl⟩
   rw [hcl] at hlen hall
   have hgp:(ps.map zn).getD k .non= .tup [.int c.f,.int cl,.int c.m]:=by rw [List.getD_eq_getElem?_getD,List.getElem?_map,hpi,←hcl];rfl
   have e2:atI (sj.map zC) (k:Int)=some (.int ((yI pl nm c.f cl).length:Int)):=by rw [hlen];exact qz (by rw [List.getElem?_map,hx];rfl)
   have hml:(yI pl nm c.f cl).length≤1000:=Nat.le_trans (List.length_filter_le _ _) hl
   have c1:=zyd hl c.f cl c.m nm q1 q2 q3 q4
   have c2:=zxl hml c.f cl c.m hall
   generalize (k:Int)=kI at e2 ⊢
   exact ⟨_,by (simp_arith [hgp,c1,c2,e1,e2,List.length_map,eq_self]) <;> rfl,⟨_,_,_,rfl⟩⟩)
 exact ⟨y6,y7,y8,e⟩
theorem zud {l:List Nat} (hl:l.sum≤1000) (s:S3) (h:H3):ye s h [.x (.lst (l.map zC))]=some (.v (.int (l.sum:Nat))):=by
 have e2:l.map zC=(l.map fun x:Nat=>(x:Int)).map V3.int:=by rw [List.map_map];rfl
 have key: ∀(l:List Nat) (a:Int),0≤a→a+(l.sum:Nat)≤1000→zi2 a (l.map fun x:Nat=>(x:Int))=true:=by
  intro l
  induction l with
  | nil=>intro a _ _;rfl
  | cons x r ih=>
   intro a h0 h1
   rw [List.sum_cons] at h1
   simp only [List.map_cons,zi2,Bool.and_eq_true,decide_eq_true_eq]
   refine ⟨⟨?_,?_⟩,ih (a+x) (by omega) (by omega)⟩ <;> (unfold InLong;omega)
 have hs: ∀l:List Nat,(l.map fun x:Nat=>(x:Int)).sum=((l.sum:Nat):Int):=by
  intro l
  induction l with
  | nil=>rfl
  | cons x r ih=>rw [List.map_cons,List.sum_cons,List.sum_cons,ih];omega
 rw [e2,zqz (key l 0 (Int.le_refl _) (by omega)),hs]
theorem ztw {l:List Nat}: ∀{x:Nat},x∈l→x≤l.sum:=by
 induction l with
 | nil=>intro x h;simp at h
 | cons y r ih=>
  intro x h
  rw [List.sum_cons]
  rcases List.mem_cons.1 h with rfl | h
  ·omega
  ·have:=ih h;omega
theorem zjr {pl:List Rw} (hl:pl.length≤1000) (js:List Jb) (hj:js.length≤1000) (ps:List Cl) (sh:List (List Nat)) (hsl:sh.length≤1000) (hsum:pl.length=(sh.map List.sum).sum)
  (hc: ∀(jn:Nat) (job:Jb),js[jn]? =some job→∃sj,sh[jn]? =some sj∧∀(k:Nat) (c:Cl),ps[k]? =some c→∃x,sj[k]? =some x∧(yI pl job.n c.f (c.f+c.t - 1)).length=x∧∀r∈yI pl job.n c.f (c.f+c.t - 1),0≤r.2.1∧r.2.1 < c.m) (h:H3):
  f_law_counted [.lst (pl.map ze),.lst (js.map Jb.enc),.lst (ps.map zn),.lst (sh.map zH)] h= .ok (.v (.bl true)) h:=by
 show Is h _ _
 unfold f_law_counted zdh zcq
 refine qM rfl ?_
 refine it_R (l:=List.range js.length) (enc:=fun k:Nat=> .tup [.int k,(js.map Jb.enc).getD k .non]) (its:=[.lst (js.map Jb.enc)]) (ok:=fun _=>True) (by (simp_arith [qy,yj,List.length_map]) <;> rfl) trivial
  (fun i s=> ∃y4 y5 y6 y7 y8,s=[some (.v (.lst (pl.map ze))),some (.v (.lst (js.map Jb.enc))),some (.v (.lst (ps.map zn))),some (.v (.lst (sh.map zH))),y4,y5,y6,y7,y8]) ⟨none,none,none,none,none,rfl⟩ ?_ ?_
 ·rintro i k s hi ⟨y4,y5,y6,y7,y8,rfl⟩
  obtain ⟨rfl,hil⟩:=zeq hi
  have hji:js[k]? =some js[k]:=zy hil
  generalize js[k]=j at hji
  have hgj:(js.map Jb.enc).getD k .non=j.enc:=by rw [List.getD_eq_getElem?_getD,List.getElem?_map,hji];rfl
  obtain ⟨sj,hsj,hcc⟩:=hc k j hji
  obtain ⟨z6,z7,z8,e⟩:=zwh hl ps sh k sj hsj j.n (.int j.f) (.int j.l) (.int j.w) (.int j.b) hcc (some (.v (.lst (js.map Jb.enc)))) y6 y7 y8 h
  exact ⟨_,by (simp_arith [hgj,e]) <;> rfl,⟨_,_,_,_,_,rfl⟩⟩
 ·rintro s ⟨y4,y5,y6,y7,y8,rfl⟩
  have hcomp:zb4 [some (.v (.lst (pl.map ze))),some (.v (.lst (js.map Jb.enc))),some (.v (.lst (ps.map zn))),some (.v (.lst (sh.map zH))),y4,y5,y6,y7,y8] h= .ok (.m (.lst ((sh.map List.sum).map zC))) h:=by
   unfold zb4
   rw [List.map_map]
   refine zc9 (x:= .lst (sh.map zH)) (enc:=zH) (fun s=> ∃a,s=[a]) _ (by simp_arith []) rfl (by omega) ⟨none,rfl⟩ ?_
   rintro l s hm ⟨a,rfl⟩
   have hls:l.sum≤1000:=by
    have:=ztw (List.mem_map_of_mem (f:=List.sum) hm)
    omega
   have hx:=fun s=>zud hls s h
   exact ⟨_,_,by (simp_arith []) <;> rfl,⟨_,rfl⟩,by (simp_arith [hx]) <;> rfl,rfl⟩
  have hx:=fun s=>zud (l:=sh.map List.sum) (by omega) s h
  rw [←hsum] at hx
  unfold Is
  (simp_arith [hcomp,hx,List.length_map,eq_self]) <;> rfl
theorem zpb (rest:Int): ∀{rows:List (Int×Int)} {st:Int},(∀p∈rows,1≤p.1)→∀d∈yT rest rows st,st≤d.f
 | [],st,_,d,h=>by
  have:d=⟨st,10,rest⟩:=by simpa [yT] using h
  subst this;exact Int.le_refl _
 | p::r,st,hp,d,h=>by
  have h:d∈(⟨st,p.1.toNat,p.2⟩:Cl)::yT rest r (st+p.1):=h
  have h1:=hp p List.mem_cons_self
  rcases List.mem_cons.1 h with rfl | h
  ·exact Int.le_refl _
  ·have:=zpb rest (fun q hq=>hp q (List.mem_cons_of_mem _ hq)) d h
   omega
theorem zja (rest:Int): ∀{rows:List (Int×Int)} {st:Int},(∀p∈rows,1≤p.1)→Lay.Chain (yT rest rows st)
 | [],st,_=>⟨show 0 < 10 by decide,by simp,trivial⟩
 | p::r,st,hp=>by
  have h1:=hp p List.mem_cons_self
  refine ⟨show 0 < p.1.toNat by omega,fun d hd=>?_,zja rest fun q hq=>hp q (List.mem_cons_of_mem _ hq)⟩
  have:=zpb rest (fun q hq=>hp q (List.mem_cons_of_mem _ hq)) d hd
  show st+(p.1.toNat:Int)≤d.f
  omega
theorem zsv (rest:Int): ∀{rows:List (Int×Int)} {st:Int},(∀p∈rows,1≤p.1)→∀c∈yT rest rows st,∀t,c.f≤t→t < c.f+c.t→Cal.at_ rows rest (t - st)=c.m
 | [],st,_,c,h,t,_,_=>by
  have:c=⟨st,10,rest⟩:=by simpa [yT] using h
  subst this;rfl
 | p::r,st,hp,c,h,t,h1,h2=>by
  have h:c∈(⟨st,p.1.toNat,p.2⟩:Cl)::yT rest r (st+p.1):=h
  have hp1:=hp p List.mem_cons_self
  rw [zkz]
  rcases List.mem_cons.1 h with rfl | h
  ·have h2:t < st+(p.1.toNat:Int):=h2
   rw [if_pos (by omega)]
  ·have hge:=zpb rest (fun q hq=>hp q (List.mem_cons_of_mem _ hq)) c h
   rw [if_neg (by omega),show t - st - p.1=t - (st+p.1) by omega]
   exact zsv rest (fun q hq=>hp q (List.mem_cons_of_mem _ hq)) c h t h1 h2
theorem zv8 (rest:Int) (hr:0≤rest): ∀{rows:List (Int×Int)} {st:Int},(∀p∈rows,1≤p.1∧p.1≤1000000∧0≤p.2∧p.2≤16)→∀c∈yT rest rows st,0 < c.t∧c.t≤1000000∧0≤c.m
 | [],st,_,c,h=>by
  have:c=⟨st,10,rest⟩:=by simpa [yT] using h
  subst this;exact ⟨show 0 < 10 by decide,show 10≤1000000 by decide,hr⟩
 | p::r,st,hp,c,h=>by
  have h:c∈(⟨st,p.1.toNat,p.2⟩:Cl)::yT rest r (st+p.1):=h
  have h1:=hp p List.mem_cons_self
  rcases List.mem_cons.1 h with rfl | h
  ·exact ⟨show 0 < p.1.toNat by omega,show p.1.toNat≤1000000 by omega,h1.2.2.1⟩
  ·exact zv8 rest hr (fun q hq=>hp q (List.mem_cons_of_mem _ hq)) c h
theorem zvd (rest:Int) (rows:List (Int×Int)) (st:Int):(yT rest rows st).length=rows.length+1:=by rw [zj8,List.length_append,zh3];rfl
theorem zfa: ∀{ps:List Cl},Lay.Chain ps→∀{i k:Nat} {c d:Cl},i≤k→ps[i]? =some c→ps[k]? =some d→c.f≤d.f∧c.f+c.t≤d.f+d.t
 | [],_,i,k,c,d,_,h,_=>by simp at h
 | a::ps,hc,0,0,c,d,_,h1,h2=>by
  have e1:a=c:=by simpa using h1
  have e2:a=d:=by simpa using h2
  subst e1;subst e2;exact ⟨Int.le_refl _,Int.le_refl _⟩
 | a::ps,hc,0,k+1,c,d,_,h1,h2=>by
  have e1:a=c:=by simpa using h1
  subst e1
  have h2:ps[k]? =some d:=by simpa using h2
  have:=hc.2.1 d (List.mem_of_getElem? h2)
  omega
 | a::ps,hc,i+1,0,c,d,hik,h1,h2=>by omega
 | a::ps,hc,i+1,k+1,c,d,hik,h1,h2=>zfa (i:=i) (k:=k) hc.2.2 (by omega) (by simpa using h1) (by simpa using h2)
structure JOk (ps:List Cl) (j:Jb) (sj:List Nat):Prop where
 len:sj.length=ps.length
 b:1≤j.b∧j.b≤16
 w:(sj.sum:Int)≤j.w∧j.w≤60
 br: ∀(k:Nat) (c:Cl) (x:Nat),ps[k]? =some c→sj[k]? =some x→x≤j.b.toNat*c.t∧(0 < x→j.f≤c.f∧c.f+c.t - 1≤j.l)
structure Lp (ps:List Cl) (js:List Jb) (sh:List (List Nat)) (rc:List Int):Prop where
 len:sh.length=js.length
 one: ∀(i:Nat) (j:Jb) (sj:List Nat),js[i]? =some j→sh[i]? =some sj→JOk ps j sj
 rl:rc.length=ps.length
 r0: ∀r∈rc,0≤r
 rm: ∀(k:Nat) (c:Cl),ps[k]? =some c→rc.getD k 0=c.m*c.t - ((yo sh k).sum:Nat)
theorem zny: ∀{js:List Jb} {o:List Nat},js.length=o.length→(zU js o).map (·.1)=js.map Jb.n
 | [],[],_=>rfl
 | a::js,y::o,h=>by
  show a.n::(zU js o).map (·.1)=a.n::js.map Jb.n
  rw [zny (by simpa using h)]
theorem zkr: ∀{js:List Jb} {o:List Nat},js.length=o.length→Lay.tot (zU js o)=o.sum
 | [],[],_=>rfl
 | a::js,y::o,h=>by
  have e:zU (a::js) (y::o)=(a.n,y)::zU js o:=rfl
  rw [e,Lay.tot_cons,zkr (by simpa using h),List.sum_cons]
theorem zx3: ∀{js:List Jb} {o:List Nat} {a:Str×Nat},a∈zU js o→∃(i:Nat) (j:Jb),js[i]? =some j∧o[i]? =some a.2∧a.1=j.n:=fun {js o a} h=>by
 unfold zU at h
 obtain ⟨q,hq,rfl⟩:=List.mem_map.1 h
 obtain ⟨i,hi⟩:=List.getElem?_of_mem hq
 rw [List.getElem?_zip_eq_some] at hi
 exact ⟨i,q.1,hi.1,hi.2,rfl⟩
theorem zzr {js:List Jb} (hn:(js.map Jb.n).Nodup) {i:Nat} {j:Jb} (h:js[i]? =some j):fj js j.n=some j:=by
 have hm:j∈js.filter fun a=>decide (a.n=j.n):=List.mem_filter.2 ⟨List.mem_of_getElem? h,by simp⟩
 unfold fj
 have key: ∀a∈js.filter (fun a=>decide (a.n=j.n)),a=j:=fun a ha=>by
  obtain ⟨h1,h2⟩:=List.mem_filter.1 ha
  obtain ⟨k,hk⟩:=List.getElem?_of_mem h1
  have e:a.n=j.n:=of_decide_eq_true h2
  have e1:(js.map Jb.n)[k]? =some j.n:=by rw [List.getElem?_map,hk,←e];rfl
  have e2:(js.map Jb.n)[i]? =some j.n:=by rw [List.getElem?_map,h];rfl
  have hk':k < (js.map Jb.n).length:=(List.getElem?_eq_some_iff.1 e1).1
  have:=(List.getElem?_inj hk' hn).1 (e1.trans e2.symm)
  subst this
  rw [hk] at h;exact Option.some.inj h
 cases hl:(js.filter fun a=>decide (a.n=j.n)).getLast? with
 | none=>rw [List.getLast?_eq_none_iff] at hl;rw [hl] at hm;simp at hm
 | some a=>rw [key a (List.mem_of_getLast? hl)]
theorem zf0 {α:Type} (l:List α) (d:α):(List.range l.length).map (fun k=>l.getD k d)=l:=by
 apply List.ext_getElem?
 intro i
 rw [List.getElem?_map]
 by_cases h:i < l.length
 ·rw [List.getElem?_range h,zy h]
  show some (l.getD i d)=_
  rw [List.getD_eq_getElem?_getD,zy h];rfl
 ·rw [List.getElem?_eq_none (by simpa using h),List.getElem?_eq_none (by omega)];rfl
theorem zxp {js:List Jb} {z:Str} {j:Jb} (h:fj js z=some j):z=j.n∧∃i:Nat,js[i]? =some j:=by
 unfold fj at h
 obtain ⟨h1,h2⟩:=List.mem_filter.1 (List.mem_of_getLast? h)
 exact ⟨(of_decide_eq_true h2).symm,List.getElem?_of_mem h1⟩
theorem zd6 {js:List Jb} {sh:List (List Nat)} {ps:List Cl} {cl:Cl×List (Str×Nat)} (h:cl∈yG js sh ps): ∃(k:Nat) (c:Cl),ps[k]? =some c∧cl=(c,zU js (yo sh k)):=by
 unfold yG at h
 obtain ⟨k,hk,rfl⟩:=List.mem_map.1 h
 have hk:k < ps.length:=by simpa using hk
 exact ⟨k,ps[k],zy hk,by rw [List.getD_eq_getElem?_getD,zy hk];rfl⟩
theorem Lp.laid {ps:List Cl} {js:List Jb} {sh:List (List Nat)} {rc:List Int} {A:Int→Int} (l:Lp ps js sh rc) (hn:(js.map Jb.n).Nodup) (hch:Lay.Chain ps) (hat: ∀c∈ps,∀t,c.f≤t→t < c.f+c.t→A t=c.m):Laid js A (yG js sh ps):=by
 have hol: ∀k,js.length=(yo sh k).length:=fun k=>by unfold yo;rw [List.length_map,l.len]
 have get: ∀(k:Nat) (c:Cl) (a:Str×Nat),ps[k]? =some c→a∈zU js (yo sh k)→∃(j:Jb) (sj:List Nat),fj js a.1=some j∧JOk ps j sj∧sj[k]? =some a.2:=fun k c a hc ha=>by
  obtain ⟨i,j,h1,h2,h3⟩:=zx3 ha
  unfold yo at h2
  rw [List.getElem?_map] at h2
  cases hs:sh[i]? with
  | none=>rw [hs] at h2;cases h2
  | some sj=>
   rw [hs] at h2
   have o:=l.one i j sj h1 hs
   have hk:k < sj.length:=by rw [o.len];exact (List.getElem?_eq_some_iff.1 hc).1
   have e:sj.getD k 0=a.2:=Option.some.inj h2
   refine ⟨j,sj,by rw [h3];exact zzr hn h1,o,?_⟩
   rw [←e,List.getD_eq_getElem?_getD,zy hk];rfl
 refine ⟨?_,?_,?_,?_,?_,?_,?_,?_⟩
 ·have e:(yG js sh ps).map (·.1)=ps:=by
   unfold yG
   rw [List.map_map]
   exact zf0 ps _
  rw [e];exact hch
 ·intro cl hcl
  obtain ⟨k,c,hc,rfl⟩:=zd6 hcl
  rw [zny (hol k)];exact hn
 ·intro cl hcl a ha
  obtain ⟨k,c,hc,rfl⟩:=zd6 hcl
  obtain ⟨j,sj,h1,_⟩:=get k c a hc ha
  exact ⟨j,h1⟩
 ·intro cl hcl a ha ha0 j hj
  obtain ⟨k,c,hc,rfl⟩:=zd6 hcl
  obtain ⟨j',sj,h1,o,h2⟩:=get k c a hc ha
  rw [hj] at h1;cases h1
  exact (o.br k c a.2 hc h2).2 ha0
 ·intro cl hcl a ha j hj
  obtain ⟨k,c,hc,rfl⟩:=zd6 hcl
  obtain ⟨j',sj,h1,o,h2⟩:=get k c a hc ha
  rw [hj] at h1;cases h1
  exact ⟨by have:=o.b;omega,(o.br k c a.2 hc h2).1⟩
 ·intro cl hcl
  obtain ⟨k,c,hc,rfl⟩:=zd6 hcl
  show (Lay.tot (zU js (yo sh k)):Int)≤c.m*c.t
  rw [zkr (hol k)]
  have h1:=l.rm k c hc
  have hk:k < rc.length:=by rw [l.rl];exact (List.getElem?_eq_some_iff.1 hc).1
  have h2:0≤rc.getD k 0:=by
   rw [List.getD_eq_getElem?_getD,zy hk]
   exact l.r0 _ (List.getElem_mem hk)
  omega
 ·intro cl hcl
  obtain ⟨k,c,hc,rfl⟩:=zd6 hcl
  exact hat c (List.mem_of_getElem? hc)
 ·intro z j hj
  obtain ⟨rfl,i,hi⟩:=zxp hj
  have his:i < sh.length:=by rw [l.len];exact (List.getElem?_eq_some_iff.1 hi).1
  have hs:sh[i]? =some sh[i]:=zy his
  have o:=l.one i j _ hi hs
  have e:(yG js sh ps).map (fun cl=>Lay.shr cl.2 j.n)=sh[i]:=by
   unfold yG
   rw [List.map_map]
   refine Eq.trans (List.map_congr_left (g:=fun k=>sh[i].getD k 0) fun k _=>?_) ?_
   ·refine zik hn (hol k) hi ?_
    unfold yo
    rw [List.getElem?_map,hs];rfl
   ·rw [←o.len];exact zf0 _ _
  rw [e]
  exact o.w.1
theorem zm3 (ps:List Cl) (hp: ∀c∈ps,0≤c.m∧c.m≤16) (hl:ps.length≤100) (x0 x1 x2 x4:Option Vl) (r:List (Option Vl)) (h:H3):zi0 (x0::x1::x2::some (.v (.lst (ps.map zn)))::x4::r) h= .ok (.m (.lst ((ps.map fun c=>c.m*(c.t:Int)).map .int))) h:=by
 unfold zi0
 rw [List.map_map]
 refine zc9 (x:= .lst (ps.map zn)) (enc:=zn) (fun s=> ∃a b c,s=[a,b,c]) _ (by simp_arith []) rfl (by omega) ⟨none,none,none,rfl⟩ ?_
 rintro c s hc ⟨a,b,d,rfl⟩
 have hm:=hp c hc
 obtain ⟨cl,hcl⟩: ∃cl:Int,c.f+(c.t:Int) - 1=cl:=⟨_,rfl⟩
 have e:zn c= .tup [.int c.f,.int cl,.int c.m]:=by rw [←hcl]
 have e2:((V3.int∘fun c:Cl=>c.m*(c.t:Int)) c)= .int (c.m*(cl - c.f+1)):=by
  show V3.int (c.m*(c.t:Int))=_
  rw [show (c.t:Int)=cl - c.f+1 by omega]
 have c1: ∀x,CMul c.m x:=fun x=>zeu ⟨by omega,by omega⟩
 rw [e,e2]
 exact ⟨_,_,by (simp_arith []) <;> rfl,⟨_,_,_,rfl⟩,by (simp_arith [c1]) <;> rfl,rfl⟩
theorem zsd {ps:List Cl} {k:Nat} {c:Cl} (h:ps[k]? =some c):atI (ps.map zn) (k:Int)=some (zn c):=qz (by rw [List.getElem?_map,h];rfl)
theorem Lp.more {ps:List Cl} {js:List Jb} {sh:List (List Nat)} {rc rc':List Int} (l:Lp ps js sh rc) (hch:Lay.Chain ps) (nm:Str) (w b bg en:Nat) (cb ce:Cl) (hb:1≤b∧b≤16) (hw:w≤60) (h1:ps[bg]? =some cb) (h2:ps[en]? =some ce) {sm:List Nat} (hsl:sm.length=ps.length) (hrl:rc'.length=rc.length) (hsum:sm.sum≤w)
  (hall: ∀k x c,sm[k]? =some x→ps[k]? =some c→ShOk ps rc b bg en rc' k x c):Lp ps (js++[⟨nm,cb.f,ce.f+ce.t - 1,w,b⟩]) (sh++[sm]) rc':=by
 have gt: ∀k,k < ps.length→∃x,sm[k]? =some x:=fun k hk=>⟨_,zy (by omega)⟩
 refine ⟨by rw [List.length_append,List.length_append,l.len];rfl,fun i j sj hj hs=>?_,by rw [hrl,l.rl],fun r hr=>?_,fun k c hc=>?_⟩
 ·by_cases hi:i < js.length
  ·rw [List.getElem?_append_left hi] at hj
   rw [List.getElem?_append_left (by rw [l.len];exact hi)] at hs
   exact l.one i j sj hj hs
  ·rw [List.getElem?_append_right (by omega)] at hj
   rw [List.getElem?_append_right (by rw [l.len];omega)] at hs
   have hi0:i - js.length=0:=by
    have:=(List.getElem?_eq_some_iff.1 hj).1
    simp at this;omega
   rw [hi0] at hj
   rw [l.len,hi0] at hs
   have ej:(⟨nm,cb.f,ce.f+ce.t - 1,w,b⟩:Jb)=j:=by simpa using hj
   have es:sm=sj:=by simpa using hs
   subst ej;subst es
   refine ⟨hsl,⟨by show (1:Int)≤b;omega,by show (b:Int)≤16;omega⟩,⟨by show ((sm.sum:Nat):Int)≤w;omega,by show (w:Int)≤60;omega⟩,fun k c x hc hx=>?_⟩
   have o:=hall k x c hx hc
   refine ⟨by show x≤((b:Int)).toNat*c.t;rw [Int.toNat_natCast];exact o.br,fun x0=>?_⟩
   obtain ⟨s1,s2⟩:=o.sp x0
   have m1:=zfa hch s1 h1 hc
   have m2:=zfa hch s2 hc h2
   exact ⟨m1.1,by show c.f+(c.t:Int) - 1≤ce.f+ce.t - 1;omega⟩
 ·obtain ⟨k,hk⟩:=List.getElem?_of_mem hr
  have hkl:k < ps.length:=by rw [←l.rl,←hrl];exact (List.getElem?_eq_some_iff.1 hk).1
  obtain ⟨x,hx⟩:=gt k hkl
  have o:=hall k x _ hx (zy hkl)
  have e:rc'.getD k 0=r:=by rw [List.getD_eq_getElem?_getD,hk];rfl
  have:=o.rc
  have:=o.rm
  omega
 ·have hkl:k < ps.length:=(List.getElem?_eq_some_iff.1 hc).1
  obtain ⟨x,hx⟩:=gt k hkl
  have o:=hall k x c hx hc
  have e:(yo (sh++[sm]) k).sum=(yo sh k).sum+x:=by
   unfold yo
   rw [List.map_append,List.sum_append]
   simp [hx]
  rw [e,o.rc,l.rm k c hc]
  omega
theorem zqt {ls:List Str} {k:Nat} (h:k < ls.length):(ls.map V3.str).getD k .non= .str ls[k]:=by
 rw [List.getD_eq_getElem?_getD,List.getElem?_map,zy h];rfl
theorem zxz {h:H3} {n:Nat} (r:Rw):yi h (n+1) (ze r) (ze r)=some true:=zug fun x hx=>by
 simp only [List.mem_cons,List.not_mem_nil,or_false] at hx
 rcases hx with rfl | rfl | rfl
 ·rw [zf2];simp
 ·rw [zf2];simp
 ·rw [zpv];simp
theorem zvj {h:H3} (rs:List Rw): ∀x∈rs.map ze,yi h 8 x x=some true:=fun x hx=>by
 obtain ⟨r,_,rfl⟩:=List.mem_map.1 hx
 exact zxz r
theorem zua {h:H3} (ns:List Int): ∀x∈ns.map V3.int,yi h 8 x x=some true:=fun x hx=>by
 obtain ⟨r,_,rfl⟩:=List.mem_map.1 hx
 rw [zf2];simp
theorem znn (f g:Nat→Nat): ∀l:List Nat,(l.map fun k=>f k+g k).sum=(l.map f).sum+(l.map g).sum
 | []=>rfl
 | a::l=>by simp only [List.map_cons,List.sum_cons,znn f g l];omega
theorem zlr (n:Nat): ∀{sh:List (List Nat)},(∀l∈sh,l.length=n)→((List.range n).map fun k=>(yo sh k).sum).sum=(sh.map List.sum).sum
 | [],_=>by
  have:(fun k=>(yo [] k).sum)=fun _=>0:=rfl
  rw [this]
  have key: ∀l:List Nat,(l.map fun _=>0).sum=0:=fun l=>by induction l with
   | nil=>rfl
   | cons a l ih=>rw [List.map_cons,List.sum_cons,ih]
  exact key _
 | l::sh,h=>by
  have e:(fun k=>(yo (l::sh) k).sum)=fun k=>l.getD k 0+(yo sh k).sum:=by funext k;show (l.getD k 0::yo sh k).sum=_;rw [List.sum_cons]
  rw [e,znn,zlr n fun m hm=>h m (List.mem_cons_of_mem _ hm),List.map_cons,List.sum_cons]
  congr 1
  have:=zf0 l 0
  rw [h l List.mem_cons_self] at this
  rw [this]
theorem zso (M:Nat): ∀{l:List Nat},(∀x∈l,x≤M)→l.sum≤l.length*M
 | [],_=>by simp
 | a::l,h=>by
  have h1:=h a List.mem_cons_self
  have h2:=zso M fun x hx=>h x (List.mem_cons_of_mem _ hx)
  rw [List.sum_cons,List.length_cons,Nat.succ_mul];omega
def lft (js:List Jb) (sh:List (List Nat)):List Int:=(js.zip sh).map fun q=>q.1.w - (q.2.sum:Nat)
theorem zog (js:List Jb) (sh:List (List Nat)) (hl:js.length≤100) (hs: ∀l∈sh,l.sum≤1000) (x0 x1 x2 x3 x4 x5:Option Vl) (r:List (Option Vl)) (h:H3):zig (x0::x1::x2::x3::x4::x5::some (.v (.lst (js.map Jb.enc)))::some (.v (.lst (sh.map zH)))::r) h= .ok (.m (.lst ((lft js sh).map .int))) h:=by
 have hz:((js.map Jb.enc).zip (sh.map zH)).map (fun q=>V3.tup [q.1,q.2])=(js.zip sh).map fun q=> .tup [q.1.enc,zH q.2]:=by rw [List.zip_map,List.map_map];rfl
 unfold zig lft
 rw [List.map_map]
 have:=zoy (n:=2) (fr:=[]) (it:=zmy (aCons (pV 6) (aCons (pV 7) aNil))) (g:=gT (gsCons (gN 0) (gsCons (gN 1) gsNil))) (c:=tTru) (e:=eOp yd (pE (eOp zr (pV 0) (pE (eC (.int 3))))) (pE (eB ye (aCons (pV 1) aNil)))) (s:=x0::x1::x2::x3::x4::x5::some (.v (.lst (js.map Jb.enc)))::some (.v (.lst (sh.map zH)))::r) (h:=h) (l:=js.zip sh) (enc:=fun q:Jb×List Nat=> .tup [q.1.enc,zH q.2]) (its:=[.lst (js.map Jb.enc),.lst (sh.map zH)]) (ok:=fun _=>True∧True) (fun s=> ∃a b,s=[a,b]) (fun _=>true) (fun q=> .int (q.1.w - (q.2.sum:Nat))) (by (simp_arith [zmy,yj,hz]) <;> rfl) ⟨trivial,trivial⟩ (by rw [List.length_zip];omega) ⟨none,none,rfl⟩ (by
  rintro q s hq ⟨a,b,rfl⟩
  have hx:=fun s=>zud (hs q.2 (List.of_mem_zip hq).2) s h
  exact ⟨_,by (simp_arith []) <;> rfl,⟨_,_,rfl⟩,rfl,fun _=>⟨_,by (simp_arith [hx]) <;> rfl,rfl⟩⟩)
 rw [this,List.filter_eq_self.2 (by simp)]
 rfl
theorem zvq {js:List Jb} {sh:List (List Nat)} {rs:List Rw} (hlen:sh.length=js.length) (h: ∀(i:Nat) (j:Jb) (sj:List Nat),js[i]? =some j→sh[i]? =some sj→(own rs j.n).length=sj.sum∧(sj.sum:Int)≤j.w):und js rs=lft js sh:=by
 unfold und lft
 apply List.ext_getElem?
 intro i
 rw [List.getElem?_map,List.getElem?_map]
 cases hj:js[i]? with
 | none=>
  have:(js.zip sh)[i]? =none:=by
   rw [List.getElem?_eq_none_iff] at hj ⊢
   rw [List.length_zip];omega
  rw [this];rfl
 | some j=>
  have hi:i < sh.length:=by rw [hlen];exact (List.getElem?_eq_some_iff.1 hj).1
  have hs:sh[i]? =some sh[i]:=zy hi
  have hz:(js.zip sh)[i]? =some (j,sh[i]):=by rw [List.getElem?_zip_eq_some];exact ⟨hj,hs⟩
  obtain ⟨h1,h2⟩:=h i j _ hj hs
  rw [hz]
  simp only [Option.map_some,zt6,h1]
  congr 1
  omega
theorem zs9 {n:Nat}: ∀(l:List (Int×Int)),lows n (l.map zm)=true
 | []=>rfl
 | p::r=>by
  have:=zs9 (n:=n) r
  simp only [List.map_cons,lows,low,this,Bool.and_self]
theorem z0b {rows:List (Int×Int)} {rest:Int} (hr:RwB rows rest):(fun t=>Cal.at_ (Cal.kform rest rows) rest t)=fun t=>Cal.at_ rows rest t:=funext fun t=>Cal.kform_at rest rows t fun p hp=>(hr.one p hp).1
theorem law_yes (ns:List Int) (hns:ns.length≤63):Yes (f_law [.scr ns] []):=by
 unfold f_law zvt zj6 zk2
 refine qM rfl ?_
 have hf:=fun k h0 h1 h=>zjk ns k h0 h1 h
 obtain ⟨rows,er,hrl,hro⟩:=zo8 ns (1+cell ns 0 % 6) (by omega) []
 refine zP (by (simp_arith [hf,er]) <;> rfl) ?_
 refine zP (by (simp_arith [hf]) <;> rfl) ?_
 have hrest:1≤1+cell ns 1 % 16∧1+cell ns 1 % 16≤16:=by omega
 generalize 1+cell ns 1 % 16=rest at hrest ⊢
 have hrb:RwB rows rest:=⟨by omega,hro,hrest⟩
 refine zP (by (simp_arith []) <;> rfl) ?_
 refine zP (by (simp_arith []) <;> rfl) ?_
 have hcl:=zng rows rest (by omega) (fun p hp=>(hro p hp).1) []
 refine zP (by (simp_arith [hcl]) <;> rfl) ?_
 have hch:Lay.Chain (yT rest rows 0):=zja rest fun p hp=>(hro p hp).1
 have hpb:=zv8 (rows:=rows) (st:=0) rest (by omega) hro
 have hpl:=zvd rest rows 0
 have hat: ∀c∈yT rest rows 0,∀t,c.f≤t→t < c.f+c.t→Cal.at_ rows rest t=c.m:=fun c hc t h1 h2=>by
  have:=zsv rest (fun p hp=>(hro p hp).1) c hc t h1 h2
  rwa [Int.sub_zero] at this
 have hm16: ∀c∈yT rest rows 0,0≤c.m∧c.m≤16:=fun c hc=>by
  have h1:=hpb c hc
  refine ⟨h1.2.2,?_⟩
  rw [←hat c hc c.f (Int.le_refl _) (by omega)]
  have key: ∀(l:List (Int×Int)) (t:Int),(∀p∈l,p.2≤16)→Cal.at_ l rest t≤16:=by
   intro l
   induction l with
   | nil=>intro t _;exact hrest.2
   | cons p r ih=>
    intro t hp
    rw [zkz]
    split
    ·exact hp p List.mem_cons_self
    ·exact ih _ fun q hq=>hp q (List.mem_cons_of_mem _ hq)
  exact key rows c.f fun p hp=>(hro p hp).2.2.2
 generalize yT rest rows 0=ps at hch hpb hpl hat hm16 ⊢
 obtain ⟨ls,el,hll,hnd,-⟩:=znj (cell ns 2) (1+cell ns 0 / 6 % 8) (by omega) []
 refine zP (by (simp_arith [hf,el]) <;> rfl) ?_
 refine zP (by (simp_arith []) <;> rfl) ?_
 have hrm:=zm3 ps hm16 (by omega)
 refine zP (by (simp_arith [eGl,hrm]) <;> rfl) ?_
 refine zP (by (simp_arith []) <;> rfl) ?_
 refine zP (by (simp_arith []) <;> rfl) ?_
 refine zP (by (simp_arith []) <;> rfl) ?_
 have hlen:1≤ls.length∧ls.length≤8:=by omega
 have hps:1≤ps.length∧ps.length≤7:=by omega
 have hL0:(0:Int) < (ps.length:Int):=by omega
 have l0:Lp ps [] [] (ps.map fun c=>c.m*(c.t:Int)):=⟨rfl,fun i j sj h=>by simp at h,by rw [List.length_map],fun r hr=>by
  obtain ⟨c,hc,rfl⟩:=List.mem_map.1 hr
  exact Int.mul_nonneg (hm16 c hc).1 (by omega),fun k c hc=>by
  rw [List.getD_eq_getElem?_getD,List.getElem?_map,hc]
  show c.m*(c.t:Int)=c.m*c.t - ((0:Nat):Int)
  omega⟩
 refine zre (l:=List.range ls.length) (enc:=fun k:Nat=> .tup [.int k,(ls.map V3.str).getD k .non]) (its:=[.lst (ls.map V3.str)]) (ok:=fun _=>True) (by (simp_arith [qy,yj,List.length_map]) <;> rfl)
  (fun i s h'=> ∃(js:List Jb) (sh:List (List Nat)) (rc:List Int) (y8 y9 y10 y11 y12 y13:Option Vl),s=[some (.v (.scr ns)),some (.v (.lst (rows.map zm))),some (.v (.int rest)),some (.v (.lst (ps.map zn))),some (.v (.lst (ls.map .str))),some (.v (.loc 0)),some (.m (.lst (js.map Jb.enc))),some (.m (.lst (sh.map zH))),y8,y9,y10,y11,y12,y13,none,none,none,none]∧h'=[.lst (rc.map .int)]∧js.map Jb.n=ls.take i∧Lp ps js sh rc)
  (fun _ _ _ _=>trivial) ⟨[],[],_,none,none,none,none,none,none,rfl,rfl,rfl,l0⟩ ?_ ?_
 ·rintro i k s h' hi ⟨js,sh,rc,y8,y9,y10,y11,y12,y13,rfl,rfl,hjn,l⟩
  obtain ⟨rfl,hil⟩:=zeq hi
  have hgs:=zqt hil
  have hli:ls[k]? =some ls[k]:=zy hil
  generalize ls[k]=nm at hgs hli
  have f1:=zjk ns (9+(k:Int)) (by omega) (by omega) [.lst (rc.map .int)]
  have f2:=zjk ns (17+(k:Int)) (by omega) (by omega) [.lst (rc.map .int)]
  generalize cell ns (9+(k:Int))=n at f1
  generalize cell ns (17+(k:Int))=c2 at f2
  have b0:=Int.emod_nonneg n (show (ps.length:Int)≠0 by omega)
  have b1:=Int.emod_lt_of_pos n hL0
  obtain ⟨bg,hbg⟩:=Int.eq_ofNat_of_zero_le b0
  have hL1:(0:Int) < (ps.length:Int) - n % (ps.length:Int):=by omega
  have e0:=Int.emod_nonneg (n / 7) (show (ps.length:Int) - n % (ps.length:Int)≠0 by omega)
  have e1:=Int.emod_lt_of_pos (n / 7) hL1
  obtain ⟨en,hen⟩:=Int.eq_ofNat_of_zero_le (show 0≤n % (ps.length:Int)+n / 7 % ((ps.length:Int) - n % (ps.length:Int)) by omega)
  obtain ⟨w,hw⟩:=Int.eq_ofNat_of_zero_le (show 0≤1+n / 49 % 60 by omega)
  obtain ⟨b,hb⟩:=Int.eq_ofNat_of_zero_le (show 0≤1+c2 % 16 by omega)
  have hbgl:bg < ps.length:=by omega
  have henl:en < ps.length:=by omega
  have g1:ps[bg]? =some ps[bg]:=zy hbgl
  have g2:ps[en]? =some ps[en]:=zy henl
  generalize ps[bg]=cb at g1
  generalize ps[en]=ce at g2
  obtain ⟨sm,rc',eS,hsl,hrl,hsum,hall⟩:=zkf ns hns k (.str nm) cb.f (ce.f+ce.t - 1) w b bg en (by omega) (by omega) ps (by omega) rc l.rl l.r0 (n:=0) (h:=[.lst (rc.map .int)]) rfl
  have l':=l.more hch nm w b bg en cb ce (by omega) (by omega) g1 g2 hsl hrl hsum hall
  have a1:=zsd g1
  have a2:=zsd g2
  have hjl:js.length=k:=by have:=congrArg List.length hjn;rw [List.length_map,List.length_take] at this;omega
  have hapJ: ∀y,yV (js.map Jb.enc) [y]=some (js.map Jb.enc++[y],.non):=fun y=>mAppend_ok (by rw [List.length_map];have:=yt;omega)
  have hapS: ∀y,yV (sh.map zH) [y]=some (sh.map zH++[y],.non):=fun y=>mAppend_ok (by rw [List.length_map,l.len];have:=yt;omega)
  have hjn':(js++[(⟨nm,cb.f,ce.f+ce.t - 1,w,b⟩:Jb)]).map Jb.n=ls.take (k+1):=by rw [List.map_append,hjn,zb1 hli];rfl
  refine ⟨[some (.v (.scr ns)),some (.v (.lst (rows.map zm))),some (.v (.int rest)),some (.v (.lst (ps.map zn))),some (.v (.lst (ls.map .str))),some (.v (.loc 0)),some (.m (.lst (js.map Jb.enc++[.tup [.str nm,.int cb.f,.int (ce.f+(ce.t:Int) - 1),.int (w:Int),.int (b:Int)]]))),some (.m (.lst (sh.map zH++[zH sm]))),some (.v (.int (k:Int))),some (.v (.str nm)),some (.v (.int n)),some (.v (.int (n % (ps.length:Int)))),some (.v (.int (n % (ps.length:Int)+n / 7 % ((ps.length:Int) - n % (ps.length:Int))))),some (.v (.tup [.str nm,.int cb.f,.int (ce.f+(ce.t:Int) - 1),.int (w:Int),.int (b:Int)])),none,none,none,none],[.lst (rc'.map .int)],?_,⟨_,_,rc',_,_,_,_,_,_,by rw [List.map_append,List.map_append];rfl,rfl,hjn',l'⟩⟩
  rw [←hbg] at a1 eS
  rw [←hen] at a2 eS
  have hset:([C3.lst (rc.map V3.int)]:H3).set 0 (.lst (rc'.map .int))=[.lst (rc'.map .int)]:=rfl
  rw [hset] at eS
  simp only [zn] at a1 a2
  rw [←hw,←hb]
  rw [←hw,←hb] at eS
  generalize ce.f+(ce.t:Int) - 1=cel at a2 eS ⊢
  generalize cb.f+(cb.t:Int) - 1=cbl at a1
  generalize (k:Int)=jI at f1 f2 eS hgs ⊢
  (simp_arith [hgs,f1,f2,hL0,hL1,a1,a2,eS,hapJ,hapS,List.length_map]) <;> rfl
 ·rintro s h' ⟨js,sh,rc,y8,y9,y10,y11,y12,y13,rfl,rfl,hjn,l⟩
  rw [List.length_range,List.take_length] at hjn
  have hn:(js.map Jb.n).Nodup:=by rw [hjn];exact hnd
  have hjl:js.length=ls.length:=by have:=congrArg List.length hjn;rwa [List.length_map] at this
  have hL:=l.laid hn hch hat
  have hshl: ∀m∈sh,m.length=ps.length:=fun m hm=>by
   obtain ⟨i,hi⟩:=List.getElem?_of_mem hm
   have hil:i < js.length:=by rw [←l.len];exact (List.getElem?_eq_some_iff.1 hi).1
   exact (l.one i _ m (zy hil) hi).len
  have hshs: ∀m∈sh,m.sum≤60:=fun m hm=>by
   obtain ⟨i,hi⟩:=List.getElem?_of_mem hm
   have hil:i < js.length:=by rw [←l.len];exact (List.getElem?_eq_some_iff.1 hi).1
   have:=(l.one i _ m (zy hil) hi).w
   omega
  have hol: ∀k,js.length=(yo sh k).length:=fun k=>by unfold yo;rw [List.length_map,l.len]
  have hrawl:(Lay.raw (yG js sh ps)).length=(sh.map List.sum).sum:=by
   rw [zht,←zlr ps.length hshl]
   unfold yG
   rw [List.map_map]
   congr 1
   exact List.map_congr_left fun k _=>zkr (hol k)
  have hsum480:(sh.map List.sum).sum≤480:=by
   have:=zso 60 (l:=sh.map List.sum) fun x hx=>by obtain ⟨m,hm,rfl⟩:=List.mem_map.1 hx;exact hshs m hm
   rw [List.length_map,l.len] at this
   omega
  obtain ⟨rs,eL,hpm,hst⟩:=zob js sh ps (fun c hc=>⟨(hpb c hc).1,(hpb c hc).2.1⟩) hshl (by rw [l.len];omega) (by omega) [.lst (rc.map .int)]
  have hrsl:rs.length=(sh.map List.sum).sum:=by rw [hpm.length_eq,hrawl]
  have good:Good js (fun t=>Cal.at_ rows rest t) rs:=hL.good.perm hpm.symm
  have hcnt: ∀(jn:Nat) (job:Jb),js[jn]? =some job→∃sj,sh[jn]? =some sj∧∀(k:Nat) (c:Cl),ps[k]? =some c→∃x,sj[k]? =some x∧(yI rs job.n c.f (c.f+c.t - 1)).length=x∧∀r∈yI rs job.n c.f (c.f+c.t - 1),0≤r.2.1∧r.2.1 < c.m:=fun jn job hjob=>by
   have hjs:jn < sh.length:=by rw [l.len];exact (List.getElem?_eq_some_iff.1 hjob).1
   refine ⟨sh[jn],zy hjs,fun k c hc=>?_⟩
   have hk:k < ps.length:=(List.getElem?_eq_some_iff.1 hc).1
   have o:=l.one jn job _ hjob (zy hjs)
   have hks:k < sh[jn].length:=by rw [o.len];exact hk
   refine ⟨_,zy hks,?_,fun r hr=>?_⟩
   ·have hpk:(yG js sh ps)[k]? =some (c,zU js (yo sh k)):=by
     unfold yG
     rw [List.getElem?_map,List.getElem?_range hk]
     show some (ps.getD k ⟨0,1,0⟩,_)=_
     rw [List.getD_eq_getElem?_getD,hc];rfl
    have h1:=zle job.n hL.ch hpk
    have h2:=zik hn (hol k) hjob (x:=sh[jn][k]) (by unfold yo;rw [List.getElem?_map,zy hjs];show some (sh[jn].getD k 0)=_;rw [List.getD_eq_getElem?_getD,zy hks];rfl)
    rw [h2,←hpm.countP_eq,List.countP_eq_length_filter] at h1
    exact h1
   ·unfold yI at hr
    obtain ⟨h1,h2⟩:=List.mem_filter.1 hr
    simp only [Bool.and_eq_true,decide_eq_true_eq] at h2
    obtain ⟨j,_,_,h3,_⟩:=good.one r h1
    have:=hat c (List.mem_of_getElem? hc) r.1 h2.2.1 (by omega)
    rw [←this];exact h3
  refine zP (by (simp_arith []) <;> rfl) ?_
  refine zP (by (simp_arith []) <;> rfl) ?_
  refine zP (by (simp_arith []) <;> rfl) ?_
  refine zP (by (simp_arith [eL]) <;> rfl) ?_
  refine zP (by (simp_arith []) <;> rfl) ?_
  refine zP (by (simp_arith []) <;> rfl) ?_
  refine zP (by (simp_arith []) <;> rfl) ?_
  refine zP (by (simp_arith []) <;> rfl) ?_
  have s1: ∀s h,qZ s h [.x (.lst (rs.map ze))]=some (.m (.lst (rs.map ze))):=fun s h=>zmw s h _ rs rfl (by omega) hst
  have n1: ∀(s:S3) (h:H3),qd s h (.x (.lst (rs.map ze))) (.x (.lst (rs.map ze)))=some (.v (.bl false)):=fun s h=>zmp zpl zpl (zvj rs)
  have k1:=fun h=>zjr (pl:=rs) (by omega) js (by omega) ps sh (by rw [l.len];omega) hrsl hcnt h
  have k2:=fun h=>zkn good (by omega) (by omega) h
  refine zP (by (simp_arith [s1,n1,k1,k2]) <;> rfl) ?_
  refine zP (by (simp_arith []) <;> rfl) ?_
  refine zP (by (simp_arith []) <;> rfl) ?_
  have hlf:=zog js sh (by omega) (fun m hm=>Nat.le_trans (hshs m hm) (by decide))
  refine zP (by (simp_arith [hlf]) <;> rfl) ?_
  refine zP (by (simp_arith []) <;> rfl) ?_
  refine zP (by (simp_arith []) <;> rfl) ?_
  have hcal:=zqn hrb [.lst (rc.map .int)]
  have hlow:lowF 1 [(Str.ofString "stretches",V3.lst ((Cal.kform rest rows).map zm)),(Str.ofString "beyond",V3.int rest)]=true:=by
   simp only [lowF,low,zs9,Bool.and_self]
  have hcal':f_Calendar_init [.loc 1,.lst (rows.map zm),.int rest] [.lst (rc.map .int),.ins "Calendar" []]= .ok (.v .non) [.lst (rc.map .int),.ins "Calendar" [("stretches",.lst ((Cal.kform rest rows).map zm)),("beyond",.int rest)]]:=hcal
  refine zP (by (simp_arith [eObj,eNew,hcal',hlow]) <;> rfl) ?_
  refine zP (by (simp_arith []) <;> rfl) ?_
  have hown: ∀(rs':List Rw),rs'.Perm rs→und js rs'=lft js sh:=fun rs' hp'=>zvq l.len fun i j sj hj hs=>by
   have o:=l.one i j sj hj hs
   refine ⟨?_,o.w.1⟩
   rw [zp1,hp'.countP_eq,hpm.countP_eq,Lay.raw_cnt]
   unfold yG
   rw [List.map_map]
   have e:((fun cl:Cl×List (Str×Nat)=>Lay.shr cl.2 j.n)∘fun k=>(ps.getD k ⟨0,1,0⟩,zU js (yo sh k)))=fun k=>sj.getD k 0:=by
    funext k
    exact zik hn (hol k) hj (by unfold yo;rw [List.getElem?_map,hs];rfl)
   rw [e,←o.len,zf0]
  have hkf:=z0b hrb
  have step: ∀(rs':List Rw),rs'.Perm rs→∀h:H3,∃kv,f_faults [.lst (js.map Jb.enc),calV (Cal.kform rest rows) rest,.lst (rs'.map ze)] h= .ok (.m (.lst [])) (h++[.dT kv]):=fun rs' hp' h=>by
   obtain ⟨kv,e⟩:=zk6 js (Cal.kform rest rows) rest (rs:=rs') (x:= .lst (rs'.map ze)) (h:=h) (.inl rfl) (by omega) (by rw [hp'.length_eq];omega)
   rw [hkf,zlt (good.perm hp'.symm)] at e
   exact ⟨kv,e⟩
  have n0: ∀(s:S3) (h:H3),qd s h (.x (.lst [])) (.x (.lst []))=some (.v (.bl false)):=fun s h=>zve zpl
  have nl: ∀(s:S3) (h:H3),s[15]? =some (some (.m (.lst ((lft js sh).map .int))))→qd s h (.x (.lst ((lft js sh).map .int))) (.s 15)=some (.v (.bl false)):=fun s h e=>zmp zpl (z0e e) (zua _)
  refine zre (l:=[rs,rs.reverse]) (enc:=fun l:List Rw=> .lst (l.map ze)) (its:=[.lst [.lst (rs.map ze),.lst (rs.reverse.map ze)]]) (ok:=fun _=>True) (by (simp_arith [iL,yj,bRev,List.map_reverse,Option.map_some]) <;> rfl)
   (fun i s h'=> ∃(x16:Vl) (y17:Option Vl),s=[some (.v (.scr ns)),some (.v (.lst (rows.map zm))),some (.v (.int rest)),some (.v (.lst (ps.map zn))),some (.v (.lst (ls.map .str))),some (.v (.loc 0)),some (.v (.lst (js.map Jb.enc))),some (.v (.lst (sh.map zH))),y8,y9,y10,y11,y12,y13,some (.v (.lst (rs.map ze))),some (.m (.lst ((lft js sh).map .int))),some x16,y17]∧(x16= .m (.ins "Calendar" [("stretches",.lst ((Cal.kform rest rows).map zm)),("beyond",.int rest)])∨x16= .v (calV (Cal.kform rest rows) rest)))
   (fun _ _ _ _=>trivial) ⟨_,none,rfl,.inl rfl⟩ ?_ ?_
  ·rintro i rs' s h' hi ⟨x16,y17,rfl,hx⟩
   have hp':rs'.Perm rs:=by
    have hm:=List.mem_of_getElem? hi
    simp only [List.mem_cons,List.not_mem_nil,or_false] at hm
    rcases hm with rfl | rfl
    ·exact .refl _
    ·exact List.reverse_perm _
   obtain ⟨kv,eF⟩:=step rs' hp' h'
   have eU:=zy9 (js:=js) (rs:=rs') (by omega) (by rw [hp'.length_eq];omega) (x:= .lst (rs'.map ze)) (h:=h'++[.dT kv]) (.inl rfl)
   rw [hown rs' hp'] at eU
   rcases hx with rfl | rfl
   ·exact ⟨_,_,by (simp_arith [eF,eU,n0,nl]) <;> rfl,⟨_,_,rfl,.inr rfl⟩⟩
   ·exact ⟨_,_,by (simp_arith [eF,eU,n0,nl]) <;> rfl,⟨_,_,rfl,.inr rfl⟩⟩
  ·rintro s h' ⟨x16,y17,rfl,hx⟩
   exact ⟨h',by (simp_arith []) <;> rfl⟩
end My
namespace My
open PySem PySem.Spec PyProof.Rows L2 L3
theorem law_true: ∀ns:List Int,ns.length≤63→∃h',f_law [.scr ns] []= .ok (.v (.bl true)) h':=law_yes
theorem txt {K:PySem.W.Frag} {mg:Str→Option Value} {h:Heap} (X:K.In h) (G:h.Ns mainGlobals mg) (S:L4.seenK ask K=L4.good PySem.Challenge.pw_dueyard_k34_whole_laid_plans_walked ask): ∃_:Txt K mg,True:=by
 obtain ⟨f0,d0,a0,F0⟩:=L4.def_at S 0 rfl
 obtain ⟨f1,d1,a1,F1⟩:=L4.def_at S 1 rfl
 obtain ⟨f2,d2,a2,F2⟩:=L4.def_at S 2 rfl
 obtain ⟨f3,d3,a3,F3⟩:=L4.def_at S 3 rfl
 obtain ⟨f4,d4,a4,F4⟩:=L4.def_at S 4 rfl
 obtain ⟨f5,d5,a5,F5⟩:=L4.def_at S 5 rfl
 obtain ⟨f6,d6,a6,F6⟩:=L4.def_at S 6 rfl
 obtain ⟨f7,d7,a7,F7⟩:=L4.def_at S 7 rfl
 obtain ⟨f8,d8,a8,F8⟩:=L4.def_at S 8 rfl
 obtain ⟨f9,d9,a9,F9⟩:=L4.def_at S 9 rfl
 obtain ⟨f10,d10,a10,F10⟩:=L4.def_at S 10 rfl
 obtain ⟨f11,d11,a11,F11⟩:=L4.def_at S 11 rfl
 obtain ⟨f12,d12,a12,F12⟩:=L4.def_at S 12 rfl
 obtain ⟨f13,d13,a13,F13⟩:=L4.def_at S 13 rfl
 obtain ⟨f14,d14,a14,F14⟩:=L4.def_at S 14 rfl
 obtain ⟨f15,d15,a15,F15⟩:=L4.def_at S 15 rfl
 obtain ⟨f16,d16,a16,F16⟩:=L4.def_at S 16 rfl
 obtain ⟨f17,d17,a17,F17⟩:=L4.def_at S 17 rfl
 obtain ⟨f18,d18,a18,F18⟩:=L4.def_at S 18 rfl
 obtain ⟨f19,d19,a19,F19⟩:=L4.def_at S 19 rfl
 obtain ⟨f20,d20,a20,F20⟩:=L4.def_at S 20 rfl
 obtain ⟨f21,d21,a21,F21⟩:=L4.def_at S 21 rfl
 obtain ⟨f22,d22,a22,F22⟩:=L4.def_at S 22 rfl
 obtain ⟨C0,c0⟩:=L4.cls_at S 0 rfl
 obtain ⟨g0,e0,A0,M0,I0⟩:=c0.meth 0 _ rfl
 obtain ⟨g1,e1,A1,M1,I1⟩:=c0.meth 1 _ rfl
 obtain ⟨t0,v0⟩:=L4.int_at S 0 rfl
 obtain ⟨t1,v1⟩:=L4.int_at S 1 rfl
 obtain ⟨t2,v2⟩:=L4.int_at S 2 rfl
 exact ⟨⟨f0,d0,⟨F0,L4.b2 F0 fun _ _ _ _ _ _ _ _=>rfl,PySem.W.mg_of X G a0⟩,f1,d1,⟨F1,L4.b2 F1 fun _ _ _ _ _ _ _ _=>rfl,PySem.W.mg_of X G a1⟩,f2,d2,⟨F2,L4.b2 F2 fun _ _ _ _ _ _ _ _=>rfl,PySem.W.mg_of X G a2⟩,f3,d3,⟨F3,L4.b2 F3 fun _ _ _ _ _ _ _ _=>rfl,PySem.W.mg_of X G a3⟩,f4,d4,⟨F4,L4.b4 F4 fun _ _ _ _ _ _ _ _ _ _=>rfl,PySem.W.mg_of X G a4⟩,f5,d5,⟨F5,L4.b3 F5 fun _ _ _ _ _ _ _ _ _=>rfl,PySem.W.mg_of X G a5⟩,f6,d6,⟨F6,L4.b1 F6 fun _ _ _ _ _ _ _=>rfl,PySem.W.mg_of X G a6⟩,f7,d7,⟨F7,L4.b2 F7 fun _ _ _ _ _ _ _ _=>rfl,PySem.W.mg_of X G a7⟩,f8,d8,⟨F8,L4.b1 F8 fun _ _ _ _ _ _ _=>rfl,PySem.W.mg_of X G a8⟩,f9,d9,⟨F9,L4.b3 F9 fun _ _ _ _ _ _ _ _ _=>rfl,PySem.W.mg_of X G a9⟩,f10,d10,⟨F10,L4.b1 F10 fun _ _ _ _ _ _ _=>rfl,PySem.W.mg_of X G a10⟩,f11,d11,⟨F11,L4.b1 F11 fun _ _ _ _ _ _ _=>rfl,PySem.W.mg_of X G a11⟩,f12,d12,⟨F12,L4.b1 F12 fun _ _ _ _ _ _ _=>rfl,PySem.W.mg_of X G a12⟩,f13,d13,⟨F13,L4.b1 F13 fun _ _ _ _ _ _ _=>rfl,PySem.W.mg_of X G a13⟩,f14,d14,⟨F14,L4.b6 F14 fun _ _ _ _ _ _ _ _ _ _ _ _=>rfl,PySem.W.mg_of X G a14⟩,f15,d15,⟨F15,L4.b4 F15 fun _ _ _ _ _ _ _ _ _ _=>rfl,PySem.W.mg_of X G a15⟩,f16,d16,⟨F16,L4.b2 F16 fun _ _ _ _ _ _ _ _=>rfl,PySem.W.mg_of X G a16⟩,f17,d17,⟨F17,L4.b4 F17 fun _ _ _ _ _ _ _ _ _ _=>rfl,PySem.W.mg_of X G a17⟩,f18,d18,⟨F18,L4.b2 F18 fun _ _ _ _ _ _ _ _=>rfl,PySem.W.mg_of X G a18⟩,f19,d19,⟨F19,L4.b3 F19 fun _ _ _ _ _ _ _ _ _=>rfl,PySem.W.mg_of X G a19⟩,f20,d20,⟨F20,L4.b2 F20 fun _ _ _ _ _ _ _ _=>rfl,PySem.W.mg_of X G a20⟩,f21,d21,⟨F21,L4.b2 F21 fun _ _ _ _ _ _ _ _=>rfl,PySem.W.mg_of X G a21⟩,f22,d22,⟨F22,L4.b1 F22 fun _ _ _ _ _ _ _=>rfl,PySem.W.mg_of X G a22⟩,C0,c0.cls,PySem.W.mg_of X G c0.g,g0,e0,⟨M0,L4.b3 M0 fun _ _ _ _ _ _ _ _ _=>rfl⟩,g1,e1,⟨M1,L4.b2 M1 fun _ _ _ _ _ _ _ _=>rfl⟩,⟨A1,I1,M1.kp⟩,⟨c0.makes,A0,I0,c0.kp⟩,c0.fld 0 _ rfl,c0.fld 1 _ rfl,PySem.W.mg_none_of X G (L4.bare_at S 0 rfl),PySem.W.mg_none_of X G (L4.bare_at S 1 rfl),PySem.W.mg_none_of X G (L4.bare_at S 2 rfl),PySem.W.mg_none_of X G (L4.bare_at S 3 rfl),PySem.W.mg_none_of X G (L4.bare_at S 4 rfl),PySem.W.mg_none_of X G (L4.bare_at S 5 rfl),PySem.W.mg_none_of X G (L4.bare_at S 6 rfl),PySem.W.mg_none_of X G (L4.bare_at S 7 rfl),PySem.W.mg_none_of X G (L4.bare_at S 8 rfl),PySem.W.mg_none_of X G (L4.bare_at S 9 rfl),PySem.W.mg_none_of X G (L4.bare_at S 10 rfl),PySem.W.mg_none_of X G (L4.bare_at S 11 rfl),PySem.W.mg_none_of X G (L4.bare_at S 12 rfl),PySem.W.mg_none_of X G (L4.bare_at S 13 rfl),PySem.W.mg_none_of X G (L4.bare_at S 14 rfl),t0,PySem.W.mg_of X G v0,t1,PySem.W.mg_of X G v1,t2,PySem.W.mg_of X G v2⟩,trivial⟩
def d_law:PySem.DefRec:=⟨"law",zgo (ym 35),zeo (ym 35),zT (ym 35),⟨207,0,230,15⟩⟩
end My
open PySem PySem.W PyProof.Rows
set_option maxRecDepth 100000 in
set_option maxHeartbeats 0 in
theorem PySem.Challenge.cw_dueyard_k34_whole_laid_plans_walked_holds : PySem.Challenge.rw_dueyard_k34_whole_laid_plans_walked.Holds := by
 w_on;o_law
 refine PySem.W.holds_open (q:=L4.lawView My.ask PySem.Challenge.pw_dueyard_k34_whole_laid_plans_walked) (loose:=L4.looseOf PySem.Challenge.pw_dueyard_k34_whole_laid_plans_walked) (Xt:=fun _=>true) (XP:=fun _ _=>True) (YP:=fun _ h=> ∃K:Frag,K.In h∧L4.seenK My.ask K=L4.good PySem.Challenge.pw_dueyard_k34_whole_laid_plans_walked My.ask) (d:=My.d_law) (kwd:=[]) (N:=20000) (L4.left_one (good:=L4.good PySem.Challenge.pw_dueyard_k34_whole_laid_plans_walked My.ask) (by kernel_rfl) (by decide) (fun _=>rfl) My.one) (fun w s e=>L4.seen_ok w s e) (fun w h h'=>L4.seen_keeps w h h') (fun _ _=>trivial) (fun _ _ _ _ _=>trivial) (by kernel_rfl) (by kernel_rfl) rfl (fun _ _=>recFacts_nil rfl) rfl (by assumption) (by decide+kernel) ⟨rfl,rfl,rfl,rfl,rfl,by decide+kernel⟩ ?hw ?hc
 case hw=>w_witness2
 case hc=>
  refine L4.walk_one (l:=PySem.Challenge.rw_dueyard_k34_whole_laid_plans_walked) (n:=63) (k:=8) (x:="_law_script") (CX:=fun w=>L2.XT PySem.Challenge.rw_dueyard_k34_whole_laid_plans_walked.prog w) (sp:=L3.spL) rfl (by decide) rfl ⟨rfl,by decide,by decide⟩ ?F (fun _ _ a ns hl hO hS=>⟨a,ns,rfl,hl,hS,hO,fun _=>rfl⟩) fun _ _ _ _ _ z=>L3.noX z
  intro w mg fa h K KX G S hmg
  obtain ⟨T,_⟩:=My.txt KX G S
  have e:=hmg.symm.trans T.d_law.g
  cases e
  exact ⟨T.fd_law,L4.binds_law T.d_law.F fun _ _ _ _ _ _ _=>rfl,fun base _ _=>(My.G_law (P:=PySem.Challenge.rw_dueyard_k34_whole_laid_plans_walked.prog) (w:=w) (base:=base) T).imp (sp':=L3.spL K) fun vs H Q E h=>L3.spL_of (κ:=My.kx T) My.law_true h⟩
